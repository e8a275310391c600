/-
  Several texts in one (Var Uar).
-/
import Derived.RangeFuncNested
import Derived.RangeFuncBound
import Derived.RangeFuncCalls
import Derived.RangeFuncLeaves
import Derived.Shelf.Abstract
import Derived.Shelf.RegionOpen
import Derived.WalkKit
import Derived.WalkSpells
import Derived.WalkLawsBesides
import Derived.OwnWalkIn
import Derived.TacticsInMore
import Derived.LoopNIn
import Derived.LoopIn
import Derived.BigQuiet
import Derived.RegionIn
import Derived.Deep.QuietTactic
import Derived.Deep.RegionWith
import Derived.Lib.OthersKept
import Derived.Maps.AppendAt
import Derived.Lib.SmallJoins
import Derived.Shelf.SlSortCmp.QuietGrown
import Derived.Deep.DrawnRows
import Derived.Test.YtcfcjljapamcoabGreatDoorProg
import Derived.Shelf.Small.Utf8
import Derived.WalkMore
namespace Go.Proofs
open Go.RowKit Go.Shelf
set_option maxRecDepth 100000
attribute [local go_sem] Oper.semAt_some
def blkV:Array Value:=#[.int .i64 0,.int .i64 55295,.int .i64 57344,.int .i64 1114111,.int .i64 1114240,.int .i64 1114367]
def Tab (w:World):Prop:=∀ (j:Nat) (v:Value),blkV[j]? = some v→w.cell? ⟨0,j,none⟩=some v
theorem Tab.cell {w:World} (h:Tab w) (j:Nat) (v:Value) (hv:blkV[j]? = some v):w.cell? ⟨0,j,none⟩=some v:=h j v hv
theorem Tab.pos {w:World} (h:Tab w):0<w.heap.size:=by
 obtain ⟨o,ho,_⟩:=cells_of_cell (h.cell 0 _ rfl)
 exact (Array.getElem?_eq_some_iff.1 ho).1
theorem Tab.below {w w':World} {n:Nat} (h:Tab w) (hb:Below n w w') (hn:0<n):Tab w':=fun j v hv=>(hb.cell (p:=⟨0,j,none⟩) hn).trans (h j v hv)
theorem cell_up {W:World} {a:Addr} {v:Value} (h:W.cell? a=some v) (o:Obj):(W.alloc o).cell? a=some v:=cell_kept h (World.grownBy_alloc W o none) (fun r e=>by cases e)
theorem Tab.up {w:World} (h:Tab w) (o:Obj):Tab (w.alloc o):=fun j v hv=>cell_up (h j v hv) o
theorem idx0 (w:World):(Instr.index 84 (.agg #[.int .i64 0,.int .i64 55295,.int .i64 57344,.int .i64 1114111,.int .i64 1114240,.int .i64 1114367]) (.int .i64 0)).run Tryz.prog w = .ok (.agg #[.int .i64 0,.int .i64 55295]) w:=by kernel_rfl
theorem idx1 (w:World):(Instr.index 84 (.agg #[.int .i64 0,.int .i64 55295,.int .i64 57344,.int .i64 1114111,.int .i64 1114240,.int .i64 1114367]) (.int .i64 1)).run Tryz.prog w = .ok (.agg #[.int .i64 57344,.int .i64 1114111]) w:=by kernel_rfl
theorem idx2 (w:World):(Instr.index 84 (.agg #[.int .i64 0,.int .i64 55295,.int .i64 57344,.int .i64 1114111,.int .i64 1114240,.int .i64 1114367]) (.int .i64 2)).run Tryz.prog w = .ok (.agg #[.int .i64 1114240,.int .i64 1114367]) w:=by kernel_rfl
def Whole (x:Int × Int):Prop:=x.1≤x.2∧((0≤x.1∧x.2≤55295)∨(57344≤x.1∧x.2≤1114111)∨(1114240≤x.1∧x.2≤1114367))
instance (x:Int × Int):Decidable (Whole x):=by unfold Whole;infer_instance
theorem whole_iff (a b:Int):Whole (a,b)↔(a≤b∧((0≤a∧b≤55295)∨(57344≤a∧b≤1114111)∨(1114240≤a∧b≤1114367))):=Iff.rfl
theorem grow_more {w W:World} {os:Array Obj} (h:w=Go.Sort.grow W os) (o:Obj):w.alloc o=Go.Sort.grow W (os++#[o]):=by rw [h,Go.Sort.alloc_eq_grow,Go.Sort.grow_grow]
theorem grow_same0 {w W:World} {ob:Obj} {os:Array Obj} (h:w=Go.Sort.grow (W.alloc ob) os):w=Go.Sort.grow (W.drewN 0) (#[ob]++os):=by rw [h,Go.Sort.alloc_eq_grow,Go.Sort.grow_grow];rfl
theorem grow_more0 {w W:World} {ob:Obj} {os:Array Obj} (h:w=Go.Sort.grow (W.alloc ob) os) (o:Obj):w.alloc o=Go.Sort.grow (W.drewN 0) (#[ob]++os++#[o]):=by rw [grow_same0 h,Go.Sort.alloc_eq_grow,Go.Sort.grow_grow]
def Grown (w w':World):Prop:=∃ q os,w'=Go.Sort.grow (w.drewN q) os
theorem Grown.refl (w:World):Grown w w:=⟨0,#[],(Go.Sort.grow_empty _).symm⟩
theorem Grown.trans {w w1 w2:World} (h:Grown w w1) (k:Grown w1 w2):Grown w w2:=by
 obtain ⟨q,os,rfl⟩:=h
 obtain ⟨q',os',rfl⟩:=k
 refine ⟨q+q',os++os',?_⟩
 show Go.Sort.grow (Go.Sort.grow ((w.drewN q).drewN q') os) os'=_
 rw [Go.Sort.grow_grow,World.drewN_drewN]
theorem Grown.alloc {w w1:World} (h:Grown w w1) (o:Obj):Grown w (w1.alloc o):=h.trans ⟨0,#[o],by rw [Go.Sort.alloc_eq_grow];rfl⟩
theorem Grown.drewN {w w1:World} (h:Grown w w1) (n:Nat):Grown w (w1.drewN n):=h.trans ⟨n,#[],(Go.Sort.grow_empty _).symm⟩
theorem Grown.drew {w w1:World} (h:Grown w w1):Grown w w1.drew:=h.trans ⟨1,#[],(Go.Sort.grow_empty _).symm⟩
theorem Grown.quiet {w w1:World} (h:Grown w w1) (n:Nat) (os:Array Obj):Grown w (Go.Sort.grow (w1.drewN n) os):=h.trans ⟨n,os,rfl⟩
theorem Grown.below {w w':World} (h:Grown w w'):Below w.heap.size w w':=by
 obtain ⟨q,os,rfl⟩:=h
 refine ⟨rfl,rfl,rfl,by simp [Go.Sort.grow],fun i hi => ?_⟩
 have:((w.drewN q).heap++os)[i]? = (w.drewN q).heap[i]? := Array.getElem?_append_left hi
 exact this
theorem Grown.size {w w':World} (h:Grown w w'):w.heap.size≤w'.heap.size:=h.below.size
theorem Grown.cell {w w':World} (h:Grown w w') {a:Addr} (ha:a.block<w.heap.size):w'.cell? a=w.cell? a:=h.below.cell ha
theorem Grown.cellv {w w':World} (h:Grown w w') {a:Addr} {v:Value} (hv:w.cell? a=some v):w'.cell? a=some v:=by
 obtain ⟨o,ho,_⟩:=cells_of_cell hv
 rw [h.cell (Array.getElem?_eq_some_iff.1 ho).1];exact hv
theorem Tab.grown {w w':World} (h:Tab w) (k:Grown w w'):Tab w':=fun j v hv=>k.cellv (h j v hv)
theorem mixed:Tryz.prog.follows .mixedOrders=true:=by kernel_rfl
theorem grown_of {P:Program} {f:FuncId} {args:Array Value} {w:World} {n:Nat} {os:Array Obj} {v:Value}
 (h:Calls P f args (Go.Sort.grow (w.drewN n) os) fun e w'=>e = .returned v∧Grown (Go.Sort.grow (w.drewN n) os) w'):Calls P f args (Go.Sort.grow (w.drewN n) os) fun e w''=>e = .returned v∧∃ p:GrownBy,w''=Go.Sort.grow (w.drewN p.n) p.os:=
 Calls.grown_of h
def blkLo:Nat→Int | 0=>0 | 1=>57344 | _=>1114240
def blkHi:Nat→Int | 0=>55295 | 1=>1114111 | _=>1114367
set_option maxHeartbeats 1000000 in
theorem whole_any (a b:Int) (w:World) (hT:Tab w):Calls Tryz.prog 60 #[.agg #[.int .i64 a,.int .i64 b]] w fun e w'=>e = .returned (.bool (decide (Whole (a,b))))∧Grown w w':=by
 have hT1:=hT.up (.cells #[.int .i64 a,.int .i64 b] 55)
 have t0:=hT1.cell 0 (.int .i64 0) rfl
 have t1:=hT1.cell 1 (.int .i64 55295) rfl
 have t2:=hT1.cell 2 (.int .i64 57344) rfl
 have t3:=hT1.cell 3 (.int .i64 1114111) rfl
 have t4:=hT1.cell 4 (.int .i64 1114240) rfl
 have t5:=hT1.cell 5 (.int .i64 1114367) rfl
 obtain ⟨r,hr⟩:∃ r:Bool,decide (Whole (a,b))=r:=⟨_,rfl⟩
 have HR:Hid (decide (Whole (a,b))=r):=hr
 rw [hr]
 clear hr
 go_enter Tryz.func60,Tryz.ntmps60
 go_wp2
 clear t0 t1 t2 t3 t4 t5
 go_loopw [6] (fun vi wr=>∃ k:Nat,vi = .int .i64 k∧k≤3∧Hid (∀ j,j<k→¬ (blkLo j≤a∧b≤blkHi j))∧∃ os,wr=Go.Sort.grow (w.alloc (.cells #[.int .i64 a,.int .i64 b] 55)) os) (fun vi _=>3 - (intOf vi).toNat)
 case atStart=>exact ⟨0,rfl,by omega,fun j hj=>by omega,#[],(Go.Sort.grow_empty _).symm⟩
 case round=>
  obtain ⟨k,rfl,hk,hm,os,hos⟩:=hrel
  have c0:wr.cell? ⟨w.heap.size,0,none⟩=some (.int .i64 a):=by rw [hos,Go.Sort.cell?_grow _ _ _ (by simp)];simp
  have c1:wr.cell? ⟨w.heap.size,1,none⟩=some (.int .i64 b):=by rw [hos,Go.Sort.cell?_grow _ _ _ (by simp)];simp
  have HO:Hid (wr=Go.Sort.grow (w.alloc (.cells #[.int .i64 a,.int .i64 b] 55)) os):=hos
  clear hos
  have d0:=fun o=>cell_up c0 o
  have d1:=fun o=>cell_up c1 o
  have hk5:k=0∨k=1∨k=2∨k=3:=by omega
  rcases hk5 with rfl | rfl | rfl | rfl
  · have hix:=idx0
    by_cases h1:0≤a
    · by_cases h2:b≤55295
      · by_cases h3:a≤b
        · have hr:r=true:=by rw [←HR.out];rw [decide_eq_true_eq,whole_iff];omega
          go_wp2
          go_ret
          exact ⟨by first | rfl | (rw [hr];rfl),0,_,grow_more0 HO.out _⟩
        · have hd3:decide (a≤b)=false:=by simp;omega
          have hr:r=false:=by rw [←HR.out];rw [decide_eq_false_iff_not,whole_iff];omega
          go_wp2
          go_ret
          exact ⟨by first | rfl | (rw [hr];rfl),0,_,grow_more0 HO.out _⟩
      · have hd2:decide (b≤55295)=false:=by simp;omega
        have hm':Hid (∀ j,j<1→¬ (blkLo j≤a∧b≤blkHi j)):=fun j hj=>by
         by_cases e:j=0
         · subst e;simp only [blkLo,blkHi];omega
         · exact hm.out j (by omega)
        go_wp2
        exact ⟨⟨1,rfl,by omega,hm',_,grow_more HO.out _⟩,by simp [intOf]⟩
    · have hd1:decide (0≤a)=false:=by simp;omega
      have hm':Hid (∀ j,j<1→¬ (blkLo j≤a∧b≤blkHi j)):=fun j hj=>by
       by_cases e:j=0
       · subst e;simp only [blkLo,blkHi];omega
       · exact hm.out j (by omega)
      go_wp2
      exact ⟨⟨1,rfl,by omega,hm',_,grow_more HO.out _⟩,by simp [intOf]⟩
  · have hix:=idx1
    by_cases h1:57344≤a
    · by_cases h2:b≤1114111
      · by_cases h3:a≤b
        · have hr:r=true:=by rw [←HR.out];rw [decide_eq_true_eq,whole_iff];omega
          go_wp2
          go_ret
          exact ⟨by first | rfl | (rw [hr];rfl),0,_,grow_more0 HO.out _⟩
        · have hd3:decide (a≤b)=false:=by simp;omega
          have hr:r=false:=by rw [←HR.out];rw [decide_eq_false_iff_not,whole_iff];omega
          go_wp2
          go_ret
          exact ⟨by first | rfl | (rw [hr];rfl),0,_,grow_more0 HO.out _⟩
      · have hd2:decide (b≤1114111)=false:=by simp;omega
        have hm':Hid (∀ j,j<2→¬ (blkLo j≤a∧b≤blkHi j)):=fun j hj=>by
         by_cases e:j=1
         · subst e;simp only [blkLo,blkHi];omega
         · exact hm.out j (by omega)
        go_wp2
        exact ⟨⟨2,rfl,by omega,hm',_,grow_more HO.out _⟩,by simp [intOf]⟩
    · have hd1:decide (57344≤a)=false:=by simp;omega
      have hm':Hid (∀ j,j<2→¬ (blkLo j≤a∧b≤blkHi j)):=fun j hj=>by
       by_cases e:j=1
       · subst e;simp only [blkLo,blkHi];omega
       · exact hm.out j (by omega)
      go_wp2
      exact ⟨⟨2,rfl,by omega,hm',_,grow_more HO.out _⟩,by simp [intOf]⟩
  · have hix:=idx2
    by_cases h1:1114240≤a
    · by_cases h2:b≤1114367
      · by_cases h3:a≤b
        · have hr:r=true:=by rw [←HR.out];rw [decide_eq_true_eq,whole_iff];omega
          go_wp2
          go_ret
          exact ⟨by first | rfl | (rw [hr];rfl),0,_,grow_more0 HO.out _⟩
        · have hd3:decide (a≤b)=false:=by simp;omega
          have hr:r=false:=by rw [←HR.out];rw [decide_eq_false_iff_not,whole_iff];omega
          go_wp2
          go_ret
          exact ⟨by first | rfl | (rw [hr];rfl),0,_,grow_more0 HO.out _⟩
      · have hd2:decide (b≤1114367)=false:=by simp;omega
        have hm':Hid (∀ j,j<3→¬ (blkLo j≤a∧b≤blkHi j)):=fun j hj=>by
         by_cases e:j=2
         · subst e;simp only [blkLo,blkHi];omega
         · exact hm.out j (by omega)
        go_wp2
        exact ⟨⟨3,rfl,by omega,hm',_,grow_more HO.out _⟩,by simp [intOf]⟩
    · have hd1:decide (1114240≤a)=false:=by simp;omega
      have hm':Hid (∀ j,j<3→¬ (blkLo j≤a∧b≤blkHi j)):=fun j hj=>by
       by_cases e:j=2
       · subst e;simp only [blkLo,blkHi];omega
       · exact hm.out j (by omega)
      go_wp2
      exact ⟨⟨3,rfl,by omega,hm',_,grow_more HO.out _⟩,by simp [intOf]⟩
  · have hr:r=false:=by
     rw [←HR.out]
     have m0:=hm.out 0 (by omega)
     have m1:=hm.out 1 (by omega)
     have m2:=hm.out 2 (by omega)
     simp only [blkLo,blkHi] at m0 m1 m2
     rw [decide_eq_false_iff_not,whole_iff];omega
    go_wp2
    go_ret
    exact ⟨by first | rfl | (rw [hr];rfl),0,_,grow_same0 HO.out⟩
end Go.Proofs
namespace Go.Proofs
open Go.RowKit Go.Shelf
set_option maxRecDepth 100000
attribute [local go_sem] Oper.semAt_some
def Tryz.lays118_ren:Go.Shelf.Ren:=⟨fun | 118=>59 | n=>n,fun | 21=>21 | 3=>3 | 4=>4 | n=>n,fun | n=>n⟩
theorem Tryz.lays118:Go.Proofs.Lays.n118 Tryz.prog Tryz.lays118_ren := {
 mixed:=by kernel_rfl
 f118:=Tryz.func59.trans (congrArg some (by kernel_rfl))
 t3:=Tryz.underlying3
 a3:=Tryz.isAgg3
 z3:=Tryz.sizeOf3
 v3:=Tryz.zeroValue3
 t4:=Tryz.underlying4
 a4:=Tryz.isAgg4
 z4:=Tryz.sizeOf4
 v4:=Tryz.zeroValue4
 t21:=Tryz.underlying21
 a21:=Tryz.isAgg21
 z21:=Tryz.sizeOf21
 v21:=Tryz.zeroValue21 }
theorem Tryz.utf8_RuneLen (r:Int) (w:World) :
 Calls Tryz.prog 59 #[.int .i32 r] w fun e w'=>e = .returned (.int .i64 (Lib.runeLen r))∧w'=w:=Any.utf8_RuneLen Tryz.lays118 r w
def Tryz.lays119_ren:Go.Shelf.Ren:=⟨fun | 119=>88 | n=>n,fun | 21=>21 | 4=>4 | n=>n,fun | n=>n⟩
theorem Tryz.lays119:Go.Proofs.Lays.n119 Tryz.prog Tryz.lays119_ren := {
 mixed:=by kernel_rfl
 f119:=Tryz.func88.trans (congrArg some (by kernel_rfl))
 t4:=Tryz.underlying4
 a4:=Tryz.isAgg4
 z4:=Tryz.sizeOf4
 v4:=Tryz.zeroValue4
 t21:=Tryz.underlying21
 a21:=Tryz.isAgg21
 z21:=Tryz.sizeOf21
 v21:=Tryz.zeroValue21 }
theorem Tryz.utf8_ValidRune (r:Int) (w:World) :
 Calls Tryz.prog 88 #[.int .i32 r] w fun e w'=>e = .returned (.bool (Lib.validRune r))∧w'=w:=Any.utf8_ValidRune Tryz.lays119 r w
set_option maxHeartbeats 400000 in
theorem stray_yes (u:Int) (w:World) (h1:1114240≤u) (h2:u≤1114367):Calls Tryz.prog 57 #[.int .i64 u] w fun e w'=>e = .returned (.bool true)∧w'=w:=by
 go_enter Tryz.func57,Tryz.ntmps57
 go_wp2
 go_ret
 exact ⟨by simp,rfl⟩
set_option maxHeartbeats 400000 in
theorem stray_no (u:Int) (w:World) (h1:u<1114240∨1114367<u):Calls Tryz.prog 57 #[.int .i64 u] w fun e w'=>e = .returned (.bool false)∧w'=w:=by
 by_cases h:u<1114240
 · have hd:decide (1114240≤u)=false:=by simp;omega
   go_enter Tryz.func57,Tryz.ntmps57
   go_wp2
   go_ret
   exact ⟨by simp,rfl⟩
 · have hd:decide (u≤1114367)=false:=by simp;omega
   have hd:decide (1114240≤u)=true:=by simp;omega
   go_enter Tryz.func57,Tryz.ntmps57
   go_wp2
   go_ret
   exact ⟨by simp,rfl⟩
set_option maxHeartbeats 400000 in
theorem isRune_yes (u:Int) (w:World) (h0:0≤u) (h1:u≤1114111) (h2:u<55296∨57343<u):Calls Tryz.prog 58 #[.int .i64 u] w fun e w'=>e = .returned (.bool true)∧w'=w:=by
 have hv:Lib.validRune u=true:=by simp [Lib.validRune];omega
 go_enter Tryz.func58,Tryz.ntmps58
 go_wp2_with (go_at_call 88;refine (Tryz.utf8_ValidRune _ _).mono ?_;rintro e w' ⟨rfl,rfl⟩)
 go_ret
 exact ⟨by simp,rfl⟩
set_option maxHeartbeats 400000 in
theorem isRune_no (u:Int) (w:World) (h1:u<0∨1114111<u∨(55296≤u∧u≤57343)):Calls Tryz.prog 58 #[.int .i64 u] w fun e w'=>e = .returned (.bool false)∧w'=w:=by
 by_cases a:u<0
 · have hd:decide (0≤u)=false:=by simp;omega
   go_enter Tryz.func58,Tryz.ntmps58
   go_wp2_with (go_at_call 88;refine (Tryz.utf8_ValidRune _ _).mono ?_;rintro e w' ⟨rfl,rfl⟩)
   go_ret
   exact ⟨by simp,rfl⟩
 · have ha:0≤u:=by omega
   by_cases b:1114111<u
   · have hd:decide (u≤1114111)=false:=by simp;omega
     go_enter Tryz.func58,Tryz.ntmps58
     go_wp2_with (go_at_call 88;refine (Tryz.utf8_ValidRune _ _).mono ?_;rintro e w' ⟨rfl,rfl⟩)
     go_ret
     exact ⟨by simp,rfl⟩
   · have hb:u≤1114111:=by omega
     have hv:Lib.validRune u=false:=by simp [Lib.validRune];omega
     go_enter Tryz.func58,Tryz.ntmps58
     go_wp2_with (go_at_call 88;refine (Tryz.utf8_ValidRune _ _).mono ?_;rintro e w' ⟨rfl,rfl⟩)
     go_ret
     exact ⟨by simp,rfl⟩
def wd (u:Int):Int:=if 1114240≤u∧u≤1114367 then 1 else if (0≤u∧u<55296)∨(57343<u∧u≤1114111) then Lib.runeLen u else 0
theorem wd_stray {u:Int} (h:1114240≤u∧u≤1114367):wd u=1:=by unfold wd;rw [if_pos h]
theorem wd_rune {u:Int} (h:(0≤u∧u<55296)∨(57343<u∧u≤1114111)):wd u=Lib.runeLen u:=by unfold wd;rw [if_neg (by omega),if_pos h]
theorem wd_no {u:Int} (h1:u<1114240∨1114367<u) (h:u<0∨1114111<u∨(55296≤u∧u≤57343)):wd u=0:=by unfold wd;rw [if_neg (by omega),if_neg (by omega)]
set_option maxHeartbeats 400000 in
theorem width_any (u:Int) (w:World):Calls Tryz.prog 37 #[.int .i64 u] w fun e w'=>e = .returned (.int .i64 (wd u))∧w'=w:=by
 by_cases a:1114240≤u∧u≤1114367
 · rw [wd_stray a]
   go_enter Tryz.func37,Tryz.ntmps37
   go_wp2_with (go_at_call 57;refine (stray_yes _ _ a.1 a.2).mono ?_;rintro e w' ⟨rfl,rfl⟩)
   go_ret
   exact ⟨rfl,rfl⟩
 · have a':u<1114240∨1114367<u:=by omega
   by_cases b:(0≤u∧u<55296)∨(57343<u∧u≤1114111)
   · rw [wd_rune b]
     have b0:0≤u:=by omega
     have b1:u≤1114111:=by omega
     have b2:u<55296∨57343<u:=by omega
     clear a b
     go_enter Tryz.func37,Tryz.ntmps37
     go_wp2_with (first | (go_at_call 57;refine (stray_no _ _ a').mono ?_;rintro e w' ⟨rfl,rfl⟩) | (go_at_call 58;refine (isRune_yes _ _ b0 b1 b2).mono ?_;rintro e w' ⟨rfl,rfl⟩) | (go_at_call 59;refine (Tryz.utf8_RuneLen _ _).mono ?_;rintro e w' ⟨rfl,rfl⟩))
     go_ret
     exact ⟨rfl,rfl⟩
   · have b':u<0∨1114111<u∨(55296≤u∧u≤57343):=by omega
     rw [wd_no a' b']
     clear a b
     go_enter Tryz.func37,Tryz.ntmps37
     go_wp2_with (first | (go_at_call 57;refine (stray_no _ _ a').mono ?_;rintro e w' ⟨rfl,rfl⟩) | (go_at_call 58;refine (isRune_no _ _ b').mono ?_;rintro e w' ⟨rfl,rfl⟩) | (go_at_call 59;refine (Tryz.utf8_RuneLen _ _).mono ?_;rintro e w' ⟨rfl,rfl⟩))
     go_ret
     exact ⟨rfl,rfl⟩
theorem wd_1 {u:Int} (h:(0≤u∧u≤127)∨(1114240≤u∧u≤1114367)):wd u=1:=by
 unfold wd Lib.runeLen
 repeat' split
 all_goals omega
theorem wd_2 {u:Int} (h:128≤u∧u≤2047):wd u=2:=by
 unfold wd Lib.runeLen
 repeat' split
 all_goals omega
theorem wd_3 {u:Int} (h:2048≤u∧u≤65535∧(u<55296∨57343<u)):wd u=3:=by
 unfold wd Lib.runeLen
 repeat' split
 all_goals omega
theorem wd_4 {u:Int} (h:65536≤u∧u≤1114111):wd u=4:=by
 unfold wd Lib.runeLen
 repeat' split
 all_goals omega
end Go.Proofs
