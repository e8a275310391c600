/-
  Print, of the line that parts passes.
-/
import Derived.Shelf.Abstract
import Derived.WalkKit
import Derived.WalkSpells
import Derived.WalkLawsBesides
import Derived.BigQuiet
import Derived.Deep.QuietTactic
import Derived.Deep.LoopGhost
import Derived.Shelf.RegionOpen
import Derived.Shelf.SlSortCmp.QuietGrown
import Derived.Defers
import Derived.Recover
import Derived.RegionDies
import Derived.WalkMore
import Derived.Test.YtknaoahokopplaaGreatDoorMgsp
import Derived.Test.YtknaoahokopplaaGreatDoorJhp
namespace Go.Proofs
open Go.RowKit Go.Shelf
set_option maxRecDepth 100000
attribute [local go_sem] Oper.semAt_some
abbrev L3:ML:=⟨3,0,⟨#[]⟩,false,false,noS,noS,noS,noS,0⟩
theorem demand_ok (c:Int) (w:World):Calls Tryz.prog 111 #[.bool true,.int .i64 c] w fun x w'=>x = .returned (.tuple #[])∧w'=w:=by
 go_enter Tryz.func111,Tryz.ntmps111
 go_wp2
 refine bodyPost_end (v := .tuple #[]) (by simp [results,Tryz.f111]) rfl ?_
 exact ⟨rfl,rfl⟩
set_option maxHeartbeats 1000000 in
theorem checkRow_nil (m:Int) (w:World):Calls Tryz.prog 113 #[.slice none 0 0,.int .i64 m] w fun x w'=>x = .returned (.tuple #[])∧w'=w:=by
 go_enter Tryz.func113,Tryz.ntmps113
 go_wp2_with (go_at_call 111;refine (demand_ok _ _).mono ?_;rintro x w1 ⟨rfl,rfl⟩)
 go_loopw [12] (fun vi wr=>vi = .int .i64 0∧wr=w1) (fun _ _=>0)
 case atStart=>exact ⟨rfl,rfl⟩
 case round=>
  obtain ⟨rfl,rfl⟩:=hrel
  go_wp2
  refine bodyPost_end (v := .tuple #[]) (by simp [results,Tryz.f113]) rfl ?_
  exact ⟨rfl,rfl⟩
set_option maxHeartbeats 1000000 in
theorem noRule3 (w:World):Calls Tryz.prog 146 #[mla L3] w fun x w'=>x = .returned (.bool true)∧Below w.heap.size w w':=by
 go_enter Tryz.func146,Tryz.ntmps146
 go_wp2
 go_ret
 exact ⟨rfl,(Below.refl _ _).alloc (Nat.le_refl _) _⟩
set_option maxHeartbeats 1000000 in
theorem sign11 (w:World):Calls Tryz.prog 68 #[.int .i64 11] w fun x w'=>x = .returned (.string ⟨#[59]⟩)∧w'=w:=by
 have hx:(⟨#[62,59,123,125,124,94,36,46,91,93,45,61,58]⟩:ByteArray).extract 1 2=⟨#[59]⟩:=by decide +kernel
 go_enter Tryz.func68,Tryz.ntmps68
 go_wp2
 go_ret
 exact ⟨congrArg (fun z=>Ending.returned (.string z)) hx,rfl⟩
set_option maxHeartbeats 1000000 in
theorem stands3 (w:World):Calls Tryz.prog 112 #[mla L3] w fun x w'=>x = .returned (.bool true)∧Below w.heap.size w w':=by
 go_enter Tryz.func112,Tryz.ntmps112
 go_wp2_with (go_at_call 146;refine (noRule3 _).mono ?_;rintro x w1 ⟨rfl,hb1⟩)
 go_ret
 exact ⟨rfl,((Below.refl _ w).alloc (Nat.le_refl _) _).trans (hb1.mono (by simp))⟩
set_option maxHeartbeats 1000000 in
theorem checkLine3 (w:World):Calls Tryz.prog 65 #[mla L3] w fun x w'=>x = .returned (.tuple #[])∧Below w.heap.size w w':=by
 go_enter Tryz.func65,Tryz.ntmps65
 go_wp2_with fail
 refine (stands3 _).mono ?_
 rintro x w1 ⟨rfl,hb1⟩
 have hI:LB w1 w.heap.size L3:=(LB.new w L3).same (hb1.block _ (by simp))
 have HB:Hid (Below w.heap.size w w1):=((Below.refl _ w).alloc (Nat.le_refl _) _).trans (hb1.mono (by simp))
 obtain ⟨c0,c1,c2,c3,c4,c5,c6,c7,c8,c9⟩:=(hI).cells
 clear hb1 hI
 go_wp2_with (first | (go_at_call 111;refine (demand_ok _ _).mono ?_;rintro x w2 ⟨rfl,rfl⟩) | (go_at_call 113;refine (checkRow_nil _ _).mono ?_;rintro x w2 ⟨rfl,rfl⟩))
 refine bodyPost_end (v := .tuple #[]) (by simp [results,Tryz.f65]) rfl ?_
 exact ⟨rfl,HB.out⟩
set_option maxHeartbeats 1000000 in
theorem checks_idle (p:Addr) (w:World) :
 CallsD Tryz.prog 64 #[.pointer (some p)] .returning w fun e u' w'=>e = .returned (.tuple #[])∧u' = .returning∧w'=w:=by
 refine callsD_of_wpS Tryz.func64 rfl fun c₀ cs hu => ?_
 apply wpS_seq
 apply wpS_region
 simp [wpOpsS,go_sem,recoverD,hu,Tryz.ntmps64,Exit.thenS]
 refine wpS_of_wp ?_
 go_wp2
 cases c₀
 simp_all [bodyPostS,results]
set_option maxHeartbeats 1000000 in
theorem check3 (g c:Nat) (w:World) (h:LB w g L3):Calls Tryz.prog 35 #[.slice (some ⟨g,0,none⟩) 1 c] w fun x w'=>x = .returned (.int .i64 0)∧Below w.heap.size w w':=by
 have hmf:∀ (fn:Fn) (first cap:Array Value) (w:World),(Instr.makeFunc fn first cap).run Tryz.prog w = .ok (.func fn first cap) w:=fun _ _ _ _=>rfl
 have H:Hid (LB w g L3):=h
 clear h
 go_enter_defers Tryz.func35,Tryz.ntmps35
 go_wp2
 go_loopw [8] (fun vi wr=>∃ k:Nat,vi = .int .i64 k∧k≤1∧Hid (wr.heap[w.heap.size]? = some (.cells #[.int .i64 0] 30 (0,0))∧LB wr g L3∧Below w.heap.size w wr)) (fun vi _=>1 - (intOf vi).toNat)
 case atStart=>exact ⟨0,rfl,by omega,World.alloc_heap_new _ _,H.out.allocs _,(Below.refl _ w).alloc (Nat.le_refl _) _⟩
 case round=>
  obtain ⟨k,rfl,hk,HR⟩:=hrel
  have hE:wr.heap[w.heap.size]? = some (.cells #[.int .i64 0] 30 (0,0)):=HR.out.1
  have hk2:k=0∨k=1:=by omega
  rcases hk2 with rfl | rfl
  · have hL:=HR.out.2.1
    clear hE
    obtain ⟨c0,c1,c2,c3,c4,c5,c6,c7,c8,c9⟩:=(hL).cells
    clear hL
    go_wp2_with fail
    refine (checkLine3 _).mono ?_
    rintro x w2 ⟨rfl,hb2⟩
    have hl:=HR.out.2.1.lt
    have hz:=HR.out.2.2.size
    have hW:w.heap.size<wr.heap.size:=(Array.getElem?_eq_some_iff.1 HR.out.1).1
    have H2:Hid (w2.heap[w.heap.size]? = some (.cells #[.int .i64 0] 30 (0,0))∧LB w2 g L3∧Below w.heap.size w w2):=⟨(hb2.block _ (by simp;omega)).trans ((Below.heap_alloc _ _ _ hW).trans HR.out.1),(HR.out.2.1.allocs _).same (hb2.block _ (by simp;omega)),(HR.out.2.2.alloc hz _).trans (hb2.mono (by simp;omega))⟩
    clear HR hb2 c0 c1 c2 c3 c4 c5 c6 c7 c8 c9
    go_wp2
    exact ⟨⟨1,rfl,by omega,H2⟩,by decide⟩
  · have p0:wr.cell? ⟨w.heap.size,0,none⟩=some (.int .i64 0):=by simp [World.cell?,hE]
    have p1:wr.frozen? ⟨w.heap.size,0,none⟩=false:=by simp [World.frozen?,hE]
    clear hE
    go_wp2
    have hE2:(wr.setCell ⟨w.heap.size,0,none⟩ (.int .i64 0)).heap[w.heap.size]? = some (.cells #[.int .i64 0] 30 (0,0)):=cells_setS HR.out.1
    have hB2:Below w.heap.size w (wr.setCell ⟨w.heap.size,0,none⟩ (.int .i64 0)):=HR.out.2.2.setCell (p:=⟨w.heap.size,0,none⟩) (Nat.le_refl _) _
    refine leaves_cons (f:=64) (args:=#[.pointer (some ⟨w.heap.size,0,none⟩)]) (by simp) (by simp [go_sem]) ?_
    refine (checks_idle _ _).mono ?_
    rintro y u' w'' ⟨rfl,rfl,rfl⟩
    have d0:(wr.setCell ⟨w.heap.size,0,none⟩ (.int .i64 0)).cell? ⟨w.heap.size,0,none⟩=some (.int .i64 0):=Lib.cell_of_heap hE2 0
    exact ⟨.int .i64 0,by simp [results,Tryz.f35,go_sem,d0],rfl,hB2⟩
set_option maxHeartbeats 1000000 in
theorem words3 (w:World):Calls Tryz.prog 38 #[mla L3] w fun x w'=>∃ g,x = .returned (.slice (some ⟨g,0,none⟩) 2 2)∧w'.cell? ⟨g,0,none⟩=some (.string ⟨#[116,104,101,110]⟩)∧w'.cell? ⟨g,1,none⟩=some (.string ⟨#[59]⟩)∧w.heap.size≤g∧Below w.heap.size w w':=by
 go_enter Tryz.func38,Tryz.ntmps38
 go_wp2_with (go_at_call 68;refine (sign11 _).mono ?_;rintro x w1 ⟨rfl,rfl⟩)
 go_ret
 have hn:=World.alloc_heap_new (w.alloc (.cells (ml1 L3).toArray 44)) (.cells #[.string ⟨#[116,104,101,110]⟩,.string ⟨#[59]⟩] 9)
 rw [World.size_alloc] at hn
 exact ⟨w.heap.size+1,rfl,Lib.cell_of_heap hn 0,Lib.cell_of_heap hn 1,by omega,((Below.refl _ w).alloc (Nat.le_refl _) _).alloc (by simp) _⟩
theorem strCells_bytes (s:ByteArray):Lib.strCells s=Lib.byteCells s.data.toList:=by
 simp [Lib.strCells,Lib.byteCells]
theorem grown_below {W W':World} (hb:Below W.heap.size W W'):W.grownBy W' none:=⟨hb.os,hb.tape,hb.output,hb.size,fun k hk _=>hb.block k hk⟩
theorem row_below {W W':World} {base:Nat} {e:TypeId} {v:Value} {k:Nat} {xs:List Value} (h:W.ownsRow base e 1 v k xs) (hb:Below W.heap.size W W'):W'.ownsRow base e 1 v k xs:=
 h.kept (grown_below hb) (by cases hv:v.ownBlock with | none=>exact .inl rfl | some g=>exact .inr (by simp))
theorem builder_below {T e:TypeId} {B b:Nat} {bs:List Value} {W W':World} (h:Lib.IsBuilder T e B b bs W) (hb:Below W.heap.size W W'):Lib.IsBuilder T e B b bs W':=by
 rcases h with ⟨hB,v,h1,h2,h3⟩ | ⟨hB,v,h1,h2,h3⟩
 · exact .inl ⟨hB,v,(hb.block b (Array.getElem?_eq_some_iff.1 h1).1).trans h1,row_below h2 hb,h3⟩
 · exact .inr ⟨hB,v,(hb.block b (Array.getElem?_eq_some_iff.1 h1).1).trans h1,row_below h2 hb,h3⟩
def thenT:ByteArray:=⟨#[116,104,101,110,32,59,10]⟩
set_option maxHeartbeats 2000000 in
theorem print3 (g c:Nat) (w:World) (h:LB w g L3):Calls Tryz.prog 19 #[.slice (some ⟨g,0,none⟩) 1 c] w fun x w'=>x = .returned (.tuple #[.string thenT,.int .i64 0])∧Below w.heap.size w w':=by
 have H:Hid (LB w g L3):=h
 clear h
 go_enter Tryz.func19,Tryz.ntmps19
 go_wp2_with fail
 refine (check3 g c _ H.out).mono ?_
 rintro x w1 ⟨rfl,hb1⟩
 have H1:Hid (LB w1 g L3∧Below w.heap.size w w1):=⟨H.out.same (hb1.block _ H.out.lt),hb1⟩
 clear hb1 H
 go_wp2
 go_loopw [15] (fun vi wr=>∃ k:Nat,vi = .int .i64 k∧k≤1∧Hid (Lib.IsBuilder 71 5 w1.heap.size w1.heap.size (Lib.byteCells (if k=0 then [] else thenT.data.toList)) wr∧LB wr g L3∧Below w.heap.size w wr∧w1.heap.size≤wr.heap.size)) (fun vi _=>1 - (intOf vi).toNat)
 case atStart=>exact ⟨0,rfl,by omega,Lib.fresh_isBuilder 71 5 w1,H1.out.1.allocs _,H1.out.2.alloc H1.out.2.size _,by simp⟩
 case round=>
  obtain ⟨k,rfl,hk,HR⟩:=hrel
  have hk2:k=0∨k=1:=by omega
  rcases hk2 with rfl | rfl
  · have hL:=HR.out.2.1
    obtain ⟨c0,c1,c2,c3,c4,c5,c6,c7,c8,c9⟩:=(hL).cells
    clear hL
    go_wp2_with fail
    refine (words3 _).mono ?_
    rintro x w2 ⟨q,rfl,hq0,hq1,hqz,hb2⟩
    have hz:=HR.out.2.2.1.size
    have H2:Hid (Lib.IsBuilder 71 5 w1.heap.size w1.heap.size [] w2∧LB w2 g L3∧Below w.heap.size w w2∧w1.heap.size≤w2.heap.size):=⟨builder_below (builder_below HR.out.1 ((Below.refl _ wr).alloc (Nat.le_refl _) _)) hb2,(HR.out.2.1.allocs _).same (hb2.block _ (by have:=HR.out.2.1.lt;simp;omega)),(HR.out.2.2.1.alloc hz _).trans (hb2.mono (by simp;omega)),by have:=hb2.size;have:=HR.out.2.2.2;simp at *;omega⟩
    have hq:∀ (j:Nat) x,[(⟨#[116,104,101,110]⟩:ByteArray),⟨#[59]⟩][j]? = some x→w2.cell? ⟨q,0+j,none⟩=some (.string x):=by
     intro j x hj
     match j,hj with
     | 0,hj=>simp at hj;subst hj;exact hq0
     | 1,hj=>simp at hj;subst hj;exact hq1
    have hqlt:q<w2.heap.size:=by
     obtain ⟨ob,ho,_⟩:=cells_of_cell hq0
     exact (Array.getElem?_eq_some_iff.1 ho).1
    clear HR hb2 c0 c1 c2 c3 c4 c5 c6 c7 c8 c9 hq0 hq1 hqz hz
    go_wp2_with fail
    refine (Tryz.strings_Join q 0 2 [⟨#[116,104,101,110]⟩,⟨#[59]⟩] ⟨#[32]⟩ w2 hq hqlt (by decide) (by decide) (by decide +kernel)).mono ?_
    rintro x w3 ⟨rfl,hb3⟩
    rw [show (⟨(Lib.join (List.map (fun x=>x.data.toList) [(⟨#[116,104,101,110]⟩:ByteArray),⟨#[59]⟩]) (⟨#[32]⟩:ByteArray).data.toList).toArray⟩:ByteArray)=⟨#[116,104,101,110,32,59]⟩ by decide +kernel]
    have H3:Hid (Lib.IsBuilder 71 5 w1.heap.size w1.heap.size [] w3∧LB w3 g L3∧Below w.heap.size w w3∧w1.heap.size≤w3.heap.size):=⟨builder_below H2.out.1 hb3,H2.out.2.1.same (hb3.block _ H2.out.2.1.lt),H2.out.2.2.1.trans (hb3.mono H2.out.2.2.1.size),by have:=hb3.size;have:=H2.out.2.2.2;omega⟩
    clear H2 hb3 hq hqlt
    go_wp2_with fail
    refine (write_any w1.heap.size w1.heap.size [] ⟨#[116,104,101,110,32,59]⟩ w3 H3.out.1 (by decide) H3.out.2.2.2).mono ?_
    rintro x w4 ⟨rfl,hA4,hb4⟩
    have hgl:g<w1.heap.size:=H1.out.1.lt
    have H4:Hid (Lib.BuilderAt 71 5 w1.heap.size w1.heap.size (.pointer (some ⟨w1.heap.size,0,none⟩)) ([]++Lib.strCells ⟨#[116,104,101,110,32,59]⟩) w4∧LB w4 g L3∧Below w.heap.size w w4∧w1.heap.size≤w4.heap.size):=⟨hA4,H3.out.2.1.same (hb4.block _ hgl),H3.out.2.2.1.trans (hb4.mono H1.out.2.size),by have:=hb4.size;have:=H3.out.2.2.2;omega⟩
    clear H3 hA4 hb4
    go_wp2_with fail
    refine (byte_any w1.heap.size w1.heap.size ([]++Lib.strCells ⟨#[116,104,101,110,32,59]⟩) 10 w4 (.inr H4.out.1) (by decide) H4.out.2.2.2).mono ?_
    rintro x w5 ⟨rfl,hA5,hb5⟩
    have hbs:([]++Lib.strCells ⟨#[116,104,101,110,32,59]⟩)++[.int .u8 10]=Lib.byteCells thenT.data.toList:=by rfl
    rw [hbs] at hA5
    have H5:Hid (Lib.BuilderAt 71 5 w1.heap.size w1.heap.size (.pointer (some ⟨w1.heap.size,0,none⟩)) (Lib.byteCells thenT.data.toList) w5∧LB w5 g L3∧Below w.heap.size w w5∧w1.heap.size≤w5.heap.size):=⟨hA5,H4.out.2.1.same (hb5.block _ hgl),H4.out.2.2.1.trans (hb5.mono H1.out.2.size),by have:=hb5.size;have:=H4.out.2.2.2;omega⟩
    clear H4 hA5 hb5 hbs
    go_wp2_with (go_at_call 40;refine (Tryz.Builder_Len w1.heap.size w1.heap.size _ w5 (.inr H5.out.1)).mono ?_;rintro x w6 ⟨rfl,rfl⟩;rw [show (Lib.byteCells thenT.data.toList).length=7 by rfl])
    exact ⟨⟨1,rfl,Nat.le_refl _,.inr H5.out.1,H5.out.2⟩,by decide⟩
  · have HS:Hid (Lib.IsBuilder 71 5 w1.heap.size w1.heap.size (Lib.byteCells thenT.data.toList) wr∧Below w.heap.size w wr∧w1.heap.size≤wr.heap.size):=⟨HR.out.1,HR.out.2.2.1,HR.out.2.2.2⟩
    clear HR
    go_wp2_with (go_at_call 41;refine (Tryz.Builder_String_any w1.heap.size w1.heap.size thenT.data.toList wr HS.out.1 HS.out.2.2).mono ?_;rintro x w6 ⟨rfl,hb6⟩)
    go_ret2
    exact ⟨rfl,HS.out.2.1.trans (hb6.mono H1.out.2.size)⟩
end Go.Proofs
