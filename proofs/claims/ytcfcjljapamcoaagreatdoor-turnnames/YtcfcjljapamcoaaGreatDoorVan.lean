/-
  The table of blocks, and whole: whether a range has numbers and all of them are units.
-/
import Derived.RangeFuncNested
import Derived.RangeFuncBound
import Derived.RangeFuncCalls
import Derived.RangeFuncLeaves
import Derived.Shelf.Abstract
import Derived.Shelf.RegionOpen
import Derived.WalkKit
import Derived.WalkSpells
import Derived.WalkLawsBesides
import Derived.OwnWalkIn
import Derived.TacticsInMore
import Derived.LoopNIn
import Derived.LoopIn
import Derived.BigQuiet
import Derived.RegionIn
import Derived.Deep.QuietTactic
import Derived.Deep.RegionWith
import Derived.Lib.OthersKept
import Derived.Maps.AppendAt
import Derived.Lib.SmallJoins
import Derived.Shelf.SlSortCmp.QuietGrown
import Derived.Deep.DrawnRows
import Derived.Test.YtcfcjljapamcoaaGreatDoorProg
namespace Go.Proofs
open Go.RowKit Go.Shelf
set_option maxRecDepth 100000
attribute [local go_sem] Oper.semAt_some
def blkV:Array Value:=#[.int .i64 0,.int .i64 55295,.int .i64 57344,.int .i64 1114111,.int .i64 1114240,.int .i64 1114367]
def Tab (w:World):Prop:=∀ (j:Nat) (v:Value),blkV[j]? = some v→w.cell? ⟨0,j,none⟩=some v
theorem Tab.cell {w:World} (h:Tab w) (j:Nat) (v:Value) (hv:blkV[j]? = some v):w.cell? ⟨0,j,none⟩=some v:=h j v hv
theorem Tab.pos {w:World} (h:Tab w):0<w.heap.size:=by
 obtain ⟨o,ho,_⟩:=cells_of_cell (h.cell 0 _ rfl)
 exact (Array.getElem?_eq_some_iff.1 ho).1
theorem Tab.below {w w':World} {n:Nat} (h:Tab w) (hb:Below n w w') (hn:0<n):Tab w':=fun j v hv=>(hb.cell (p:=⟨0,j,none⟩) hn).trans (h j v hv)
theorem cell_up {W:World} {a:Addr} {v:Value} (h:W.cell? a=some v) (o:Obj):(W.alloc o).cell? a=some v:=cell_kept h (World.grownBy_alloc W o none) (fun r e=>by cases e)
theorem Tab.up {w:World} (h:Tab w) (o:Obj):Tab (w.alloc o):=fun j v hv=>cell_up (h j v hv) o
theorem idx0 (w:World):(Instr.index 119 (.agg #[.int .i64 0,.int .i64 55295,.int .i64 57344,.int .i64 1114111,.int .i64 1114240,.int .i64 1114367]) (.int .i64 0)).run Tryz.prog w = .ok (.agg #[.int .i64 0,.int .i64 55295]) w:=by kernel_rfl
theorem idx1 (w:World):(Instr.index 119 (.agg #[.int .i64 0,.int .i64 55295,.int .i64 57344,.int .i64 1114111,.int .i64 1114240,.int .i64 1114367]) (.int .i64 1)).run Tryz.prog w = .ok (.agg #[.int .i64 57344,.int .i64 1114111]) w:=by kernel_rfl
theorem idx2 (w:World):(Instr.index 119 (.agg #[.int .i64 0,.int .i64 55295,.int .i64 57344,.int .i64 1114111,.int .i64 1114240,.int .i64 1114367]) (.int .i64 2)).run Tryz.prog w = .ok (.agg #[.int .i64 1114240,.int .i64 1114367]) w:=by kernel_rfl
def Whole (x:Int × Int):Prop:=x.1≤x.2∧((0≤x.1∧x.2≤55295)∨(57344≤x.1∧x.2≤1114111)∨(1114240≤x.1∧x.2≤1114367))
instance (x:Int × Int):Decidable (Whole x):=by unfold Whole;infer_instance
theorem whole_iff (a b:Int):Whole (a,b)↔(a≤b∧((0≤a∧b≤55295)∨(57344≤a∧b≤1114111)∨(1114240≤a∧b≤1114367))):=Iff.rfl
theorem grow_more {w W:World} {os:Array Obj} (h:w=Go.Sort.grow W os) (o:Obj):w.alloc o=Go.Sort.grow W (os++#[o]):=by rw [h,Go.Sort.alloc_eq_grow,Go.Sort.grow_grow]
theorem grow_same0 {w W:World} {ob:Obj} {os:Array Obj} (h:w=Go.Sort.grow (W.alloc ob) os):w=Go.Sort.grow (W.drewN 0) (#[ob]++os):=by rw [h,Go.Sort.alloc_eq_grow,Go.Sort.grow_grow];rfl
theorem grow_more0 {w W:World} {ob:Obj} {os:Array Obj} (h:w=Go.Sort.grow (W.alloc ob) os) (o:Obj):w.alloc o=Go.Sort.grow (W.drewN 0) (#[ob]++os++#[o]):=by rw [grow_same0 h,Go.Sort.alloc_eq_grow,Go.Sort.grow_grow]
def Grown (w w':World):Prop:=∃ q os,w'=Go.Sort.grow (w.drewN q) os
theorem Grown.refl (w:World):Grown w w:=⟨0,#[],(Go.Sort.grow_empty _).symm⟩
theorem Grown.trans {w w1 w2:World} (h:Grown w w1) (k:Grown w1 w2):Grown w w2:=by
 obtain ⟨q,os,rfl⟩:=h
 obtain ⟨q',os',rfl⟩:=k
 refine ⟨q+q',os++os',?_⟩
 show Go.Sort.grow (Go.Sort.grow ((w.drewN q).drewN q') os) os'=_
 rw [Go.Sort.grow_grow,World.drewN_drewN]
theorem Grown.alloc {w w1:World} (h:Grown w w1) (o:Obj):Grown w (w1.alloc o):=h.trans ⟨0,#[o],by rw [Go.Sort.alloc_eq_grow];rfl⟩
theorem Grown.drewN {w w1:World} (h:Grown w w1) (n:Nat):Grown w (w1.drewN n):=h.trans ⟨n,#[],(Go.Sort.grow_empty _).symm⟩
theorem Grown.drew {w w1:World} (h:Grown w w1):Grown w w1.drew:=h.trans ⟨1,#[],(Go.Sort.grow_empty _).symm⟩
theorem Grown.quiet {w w1:World} (h:Grown w w1) (n:Nat) (os:Array Obj):Grown w (Go.Sort.grow (w1.drewN n) os):=h.trans ⟨n,os,rfl⟩
theorem Grown.below {w w':World} (h:Grown w w'):Below w.heap.size w w':=by
 obtain ⟨q,os,rfl⟩:=h
 refine ⟨rfl,rfl,rfl,by simp [Go.Sort.grow],fun i hi => ?_⟩
 have:((w.drewN q).heap++os)[i]? = (w.drewN q).heap[i]? := Array.getElem?_append_left hi
 exact this
theorem Grown.size {w w':World} (h:Grown w w'):w.heap.size≤w'.heap.size:=h.below.size
theorem Grown.cell {w w':World} (h:Grown w w') {a:Addr} (ha:a.block<w.heap.size):w'.cell? a=w.cell? a:=h.below.cell ha
theorem Grown.cellv {w w':World} (h:Grown w w') {a:Addr} {v:Value} (hv:w.cell? a=some v):w'.cell? a=some v:=by
 obtain ⟨o,ho,_⟩:=cells_of_cell hv
 rw [h.cell (Array.getElem?_eq_some_iff.1 ho).1];exact hv
theorem Tab.grown {w w':World} (h:Tab w) (k:Grown w w'):Tab w':=fun j v hv=>k.cellv (h j v hv)
theorem mixed:Tryz.prog.follows .mixedOrders=true:=by kernel_rfl
theorem grown_of {P:Program} {f:FuncId} {args:Array Value} {w:World} {n:Nat} {os:Array Obj} {v:Value}
 (h:Calls P f args (Go.Sort.grow (w.drewN n) os) fun e w'=>e = .returned v∧Grown (Go.Sort.grow (w.drewN n) os) w'):Calls P f args (Go.Sort.grow (w.drewN n) os) fun e w''=>e = .returned v∧∃ p:GrownBy,w''=Go.Sort.grow (w.drewN p.n) p.os:=
 Calls.grown_of h
def blkLo:Nat→Int | 0=>0 | 1=>57344 | _=>1114240
def blkHi:Nat→Int | 0=>55295 | 1=>1114111 | _=>1114367
set_option maxHeartbeats 1000000 in
theorem whole_any (a b:Int) (w:World) (hT:Tab w):Calls Tryz.prog 161 #[.agg #[.int .i64 a,.int .i64 b]] w fun e w'=>e = .returned (.bool (decide (Whole (a,b))))∧Grown w w':=by
 have hT1:=hT.up (.cells #[.int .i64 a,.int .i64 b] 67)
 have t0:=hT1.cell 0 (.int .i64 0) rfl
 have t1:=hT1.cell 1 (.int .i64 55295) rfl
 have t2:=hT1.cell 2 (.int .i64 57344) rfl
 have t3:=hT1.cell 3 (.int .i64 1114111) rfl
 have t4:=hT1.cell 4 (.int .i64 1114240) rfl
 have t5:=hT1.cell 5 (.int .i64 1114367) rfl
 obtain ⟨r,hr⟩:∃ r:Bool,decide (Whole (a,b))=r:=⟨_,rfl⟩
 have HR:Hid (decide (Whole (a,b))=r):=hr
 rw [hr]
 clear hr
 go_enter Tryz.func161,Tryz.ntmps161
 go_wp2
 clear t0 t1 t2 t3 t4 t5
 go_loopw [6] (fun vi wr=>∃ k:Nat,vi = .int .i64 k∧k≤3∧Hid (∀ j,j<k→¬ (blkLo j≤a∧b≤blkHi j))∧∃ os,wr=Go.Sort.grow (w.alloc (.cells #[.int .i64 a,.int .i64 b] 67)) os) (fun vi _=>3 - (intOf vi).toNat)
 case atStart=>exact ⟨0,rfl,by omega,fun j hj=>by omega,#[],(Go.Sort.grow_empty _).symm⟩
 case round=>
  obtain ⟨k,rfl,hk,hm,os,hos⟩:=hrel
  have c0:wr.cell? ⟨w.heap.size,0,none⟩=some (.int .i64 a):=by rw [hos,Go.Sort.cell?_grow _ _ _ (by simp)];simp
  have c1:wr.cell? ⟨w.heap.size,1,none⟩=some (.int .i64 b):=by rw [hos,Go.Sort.cell?_grow _ _ _ (by simp)];simp
  have HO:Hid (wr=Go.Sort.grow (w.alloc (.cells #[.int .i64 a,.int .i64 b] 67)) os):=hos
  clear hos
  have d0:=fun o=>cell_up c0 o
  have d1:=fun o=>cell_up c1 o
  have hk5:k=0∨k=1∨k=2∨k=3:=by omega
  rcases hk5 with rfl | rfl | rfl | rfl
  · have hix:=idx0
    by_cases h1:0≤a
    · by_cases h2:b≤55295
      · by_cases h3:a≤b
        · have hr:r=true:=by rw [←HR.out];rw [decide_eq_true_eq,whole_iff];omega
          go_wp2
          go_ret
          exact ⟨by first | rfl | (rw [hr];rfl),0,_,grow_more0 HO.out _⟩
        · have hd3:decide (a≤b)=false:=by simp;omega
          have hr:r=false:=by rw [←HR.out];rw [decide_eq_false_iff_not,whole_iff];omega
          go_wp2
          go_ret
          exact ⟨by first | rfl | (rw [hr];rfl),0,_,grow_more0 HO.out _⟩
      · have hd2:decide (b≤55295)=false:=by simp;omega
        have hm':Hid (∀ j,j<1→¬ (blkLo j≤a∧b≤blkHi j)):=fun j hj=>by
         by_cases e:j=0
         · subst e;simp only [blkLo,blkHi];omega
         · exact hm.out j (by omega)
        go_wp2
        exact ⟨⟨1,rfl,by omega,hm',_,grow_more HO.out _⟩,by simp [intOf]⟩
    · have hd1:decide (0≤a)=false:=by simp;omega
      have hm':Hid (∀ j,j<1→¬ (blkLo j≤a∧b≤blkHi j)):=fun j hj=>by
       by_cases e:j=0
       · subst e;simp only [blkLo,blkHi];omega
       · exact hm.out j (by omega)
      go_wp2
      exact ⟨⟨1,rfl,by omega,hm',_,grow_more HO.out _⟩,by simp [intOf]⟩
  · have hix:=idx1
    by_cases h1:57344≤a
    · by_cases h2:b≤1114111
      · by_cases h3:a≤b
        · have hr:r=true:=by rw [←HR.out];rw [decide_eq_true_eq,whole_iff];omega
          go_wp2
          go_ret
          exact ⟨by first | rfl | (rw [hr];rfl),0,_,grow_more0 HO.out _⟩
        · have hd3:decide (a≤b)=false:=by simp;omega
          have hr:r=false:=by rw [←HR.out];rw [decide_eq_false_iff_not,whole_iff];omega
          go_wp2
          go_ret
          exact ⟨by first | rfl | (rw [hr];rfl),0,_,grow_more0 HO.out _⟩
      · have hd2:decide (b≤1114111)=false:=by simp;omega
        have hm':Hid (∀ j,j<2→¬ (blkLo j≤a∧b≤blkHi j)):=fun j hj=>by
         by_cases e:j=1
         · subst e;simp only [blkLo,blkHi];omega
         · exact hm.out j (by omega)
        go_wp2
        exact ⟨⟨2,rfl,by omega,hm',_,grow_more HO.out _⟩,by simp [intOf]⟩
    · have hd1:decide (57344≤a)=false:=by simp;omega
      have hm':Hid (∀ j,j<2→¬ (blkLo j≤a∧b≤blkHi j)):=fun j hj=>by
       by_cases e:j=1
       · subst e;simp only [blkLo,blkHi];omega
       · exact hm.out j (by omega)
      go_wp2
      exact ⟨⟨2,rfl,by omega,hm',_,grow_more HO.out _⟩,by simp [intOf]⟩
  · have hix:=idx2
    by_cases h1:1114240≤a
    · by_cases h2:b≤1114367
      · by_cases h3:a≤b
        · have hr:r=true:=by rw [←HR.out];rw [decide_eq_true_eq,whole_iff];omega
          go_wp2
          go_ret
          exact ⟨by first | rfl | (rw [hr];rfl),0,_,grow_more0 HO.out _⟩
        · have hd3:decide (a≤b)=false:=by simp;omega
          have hr:r=false:=by rw [←HR.out];rw [decide_eq_false_iff_not,whole_iff];omega
          go_wp2
          go_ret
          exact ⟨by first | rfl | (rw [hr];rfl),0,_,grow_more0 HO.out _⟩
      · have hd2:decide (b≤1114367)=false:=by simp;omega
        have hm':Hid (∀ j,j<3→¬ (blkLo j≤a∧b≤blkHi j)):=fun j hj=>by
         by_cases e:j=2
         · subst e;simp only [blkLo,blkHi];omega
         · exact hm.out j (by omega)
        go_wp2
        exact ⟨⟨3,rfl,by omega,hm',_,grow_more HO.out _⟩,by simp [intOf]⟩
    · have hd1:decide (1114240≤a)=false:=by simp;omega
      have hm':Hid (∀ j,j<3→¬ (blkLo j≤a∧b≤blkHi j)):=fun j hj=>by
       by_cases e:j=2
       · subst e;simp only [blkLo,blkHi];omega
       · exact hm.out j (by omega)
      go_wp2
      exact ⟨⟨3,rfl,by omega,hm',_,grow_more HO.out _⟩,by simp [intOf]⟩
  · have hr:r=false:=by
     rw [←HR.out]
     have m0:=hm.out 0 (by omega)
     have m1:=hm.out 1 (by omega)
     have m2:=hm.out 2 (by omega)
     simp only [blkLo,blkHi] at m0 m1 m2
     rw [decide_eq_false_iff_not,whole_iff];omega
    go_wp2
    go_ret
    exact ⟨by first | rfl | (rw [hr];rfl),0,_,grow_same0 HO.out⟩
end Go.Proofs
