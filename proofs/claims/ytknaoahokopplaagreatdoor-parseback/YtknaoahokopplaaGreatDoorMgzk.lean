/-
  Several texts in one (Jqk W7k V4k).
-/
import Derived.Shelf.Abstract
import Derived.WalkKit
import Derived.WalkSpells
import Derived.WalkLawsBesides
import Derived.BigQuiet
import Derived.Deep.QuietTactic
import Derived.Deep.LoopGhost
import Derived.Shelf.RegionOpen
import Derived.Shelf.SlSortCmp.QuietGrown
import Derived.Defers
import Derived.Recover
import Derived.RegionDies
import Derived.WalkMore
import Derived.Test.YtknaoahokopplaaGreatDoorMgyk
import Derived.Test.YtknaoahokopplaaGreatDoorMgqk
import Derived.Test.YtknaoahokopplaaGreatDoorMgvk
namespace Go.Proofs
open Go.RowKit Go.Shelf
set_option maxRecDepth 100000
attribute [local go_sem] Oper.semAt_some
abbrev L3:ML:=⟨3,0,⟨#[]⟩,false,false,noS,noS,noS,noS,0⟩
theorem demand_ok (c:Int) (w:World):Calls Tryz.prog 111 #[.bool true,.int .i64 c] w fun x w'=>x = .returned (.tuple #[])∧w'=w:=by
 go_enter Tryz.func111,Tryz.ntmps111
 go_wp2
 refine bodyPost_end (v := .tuple #[]) (by simp [results,Tryz.f111]) rfl ?_
 exact ⟨rfl,rfl⟩
set_option maxHeartbeats 1000000 in
theorem checkRow_nil (m:Int) (w:World):Calls Tryz.prog 113 #[.slice none 0 0,.int .i64 m] w fun x w'=>x = .returned (.tuple #[])∧w'=w:=by
 go_enter Tryz.func113,Tryz.ntmps113
 go_wp2_with (go_at_call 111;refine (demand_ok _ _).mono ?_;rintro x w1 ⟨rfl,rfl⟩)
 go_loopw [12] (fun vi wr=>vi = .int .i64 0∧wr=w1) (fun _ _=>0)
 case atStart=>exact ⟨rfl,rfl⟩
 case round=>
  obtain ⟨rfl,rfl⟩:=hrel
  go_wp2
  refine bodyPost_end (v := .tuple #[]) (by simp [results,Tryz.f113]) rfl ?_
  exact ⟨rfl,rfl⟩
set_option maxHeartbeats 1000000 in
theorem noRule3 (w:World):Calls Tryz.prog 146 #[mla L3] w fun x w'=>x = .returned (.bool true)∧Below w.heap.size w w':=by
 go_enter Tryz.func146,Tryz.ntmps146
 go_wp2
 go_ret
 exact ⟨rfl,(Below.refl _ _).alloc (Nat.le_refl _) _⟩
set_option maxHeartbeats 1000000 in
theorem sign11 (w:World):Calls Tryz.prog 68 #[.int .i64 11] w fun x w'=>x = .returned (.string ⟨#[59]⟩)∧w'=w:=by
 have hx:(⟨#[62,59,123,125,124,94,36,46,91,93,45,61,58]⟩:ByteArray).extract 1 2=⟨#[59]⟩:=by decide +kernel
 go_enter Tryz.func68,Tryz.ntmps68
 go_wp2
 go_ret
 exact ⟨congrArg (fun z=>Ending.returned (.string z)) hx,rfl⟩
set_option maxHeartbeats 1000000 in
theorem stands3 (w:World):Calls Tryz.prog 112 #[mla L3] w fun x w'=>x = .returned (.bool true)∧Below w.heap.size w w':=by
 go_enter Tryz.func112,Tryz.ntmps112
 go_wp2_with (go_at_call 146;refine (noRule3 _).mono ?_;rintro x w1 ⟨rfl,hb1⟩)
 go_ret
 exact ⟨rfl,((Below.refl _ w).alloc (Nat.le_refl _) _).trans (hb1.mono (by simp))⟩
set_option maxHeartbeats 1000000 in
theorem checkLine3 (w:World):Calls Tryz.prog 65 #[mla L3] w fun x w'=>x = .returned (.tuple #[])∧Below w.heap.size w w':=by
 go_enter Tryz.func65,Tryz.ntmps65
 go_wp2_with fail
 refine (stands3 _).mono ?_
 rintro x w1 ⟨rfl,hb1⟩
 have hI:LB w1 w.heap.size L3:=(LB.new w L3).same (hb1.block _ (by simp))
 have HB:Hid (Below w.heap.size w w1):=((Below.refl _ w).alloc (Nat.le_refl _) _).trans (hb1.mono (by simp))
 obtain ⟨c0,c1,c2,c3,c4,c5,c6,c7,c8,c9⟩:=(hI).cells
 clear hb1 hI
 go_wp2_with (first | (go_at_call 111;refine (demand_ok _ _).mono ?_;rintro x w2 ⟨rfl,rfl⟩) | (go_at_call 113;refine (checkRow_nil _ _).mono ?_;rintro x w2 ⟨rfl,rfl⟩))
 refine bodyPost_end (v := .tuple #[]) (by simp [results,Tryz.f65]) rfl ?_
 exact ⟨rfl,HB.out⟩
set_option maxHeartbeats 1000000 in
theorem checks_idle (p:Addr) (w:World) :
 CallsD Tryz.prog 64 #[.pointer (some p)] .returning w fun e u' w'=>e = .returned (.tuple #[])∧u' = .returning∧w'=w:=by
 refine callsD_of_wpS Tryz.func64 rfl fun c₀ cs hu => ?_
 apply wpS_seq
 apply wpS_region
 simp [wpOpsS,go_sem,recoverD,hu,Tryz.ntmps64,Exit.thenS]
 refine wpS_of_wp ?_
 go_wp2
 cases c₀
 simp_all [bodyPostS,results]
set_option maxHeartbeats 1000000 in
theorem check3 (g c:Nat) (w:World) (h:LB w g L3):Calls Tryz.prog 35 #[.slice (some ⟨g,0,none⟩) 1 c] w fun x w'=>x = .returned (.int .i64 0)∧Below w.heap.size w w':=by
 have hmf:∀ (fn:Fn) (first cap:Array Value) (w:World),(Instr.makeFunc fn first cap).run Tryz.prog w = .ok (.func fn first cap) w:=fun _ _ _ _=>rfl
 have H:Hid (LB w g L3):=h
 clear h
 go_enter_defers Tryz.func35,Tryz.ntmps35
 go_wp2
 go_loopw [8] (fun vi wr=>∃ k:Nat,vi = .int .i64 k∧k≤1∧Hid (wr.heap[w.heap.size]? = some (.cells #[.int .i64 0] 30 (0,0))∧LB wr g L3∧Below w.heap.size w wr)) (fun vi _=>1 - (intOf vi).toNat)
 case atStart=>exact ⟨0,rfl,by omega,World.alloc_heap_new _ _,H.out.allocs _,(Below.refl _ w).alloc (Nat.le_refl _) _⟩
 case round=>
  obtain ⟨k,rfl,hk,HR⟩:=hrel
  have hE:wr.heap[w.heap.size]? = some (.cells #[.int .i64 0] 30 (0,0)):=HR.out.1
  have hk2:k=0∨k=1:=by omega
  rcases hk2 with rfl | rfl
  · have hL:=HR.out.2.1
    clear hE
    obtain ⟨c0,c1,c2,c3,c4,c5,c6,c7,c8,c9⟩:=(hL).cells
    clear hL
    go_wp2_with fail
    refine (checkLine3 _).mono ?_
    rintro x w2 ⟨rfl,hb2⟩
    have hl:=HR.out.2.1.lt
    have hz:=HR.out.2.2.size
    have hW:w.heap.size<wr.heap.size:=(Array.getElem?_eq_some_iff.1 HR.out.1).1
    have H2:Hid (w2.heap[w.heap.size]? = some (.cells #[.int .i64 0] 30 (0,0))∧LB w2 g L3∧Below w.heap.size w w2):=⟨(hb2.block _ (by simp;omega)).trans ((Below.heap_alloc _ _ _ hW).trans HR.out.1),(HR.out.2.1.allocs _).same (hb2.block _ (by simp;omega)),(HR.out.2.2.alloc hz _).trans (hb2.mono (by simp;omega))⟩
    clear HR hb2 c0 c1 c2 c3 c4 c5 c6 c7 c8 c9
    go_wp2
    exact ⟨⟨1,rfl,by omega,H2⟩,by decide⟩
  · have p0:wr.cell? ⟨w.heap.size,0,none⟩=some (.int .i64 0):=by simp [World.cell?,hE]
    have p1:wr.frozen? ⟨w.heap.size,0,none⟩=false:=by simp [World.frozen?,hE]
    clear hE
    go_wp2
    have hE2:(wr.setCell ⟨w.heap.size,0,none⟩ (.int .i64 0)).heap[w.heap.size]? = some (.cells #[.int .i64 0] 30 (0,0)):=cells_setS HR.out.1
    have hB2:Below w.heap.size w (wr.setCell ⟨w.heap.size,0,none⟩ (.int .i64 0)):=HR.out.2.2.setCell (p:=⟨w.heap.size,0,none⟩) (Nat.le_refl _) _
    refine leaves_cons (f:=64) (args:=#[.pointer (some ⟨w.heap.size,0,none⟩)]) (by simp) (by simp [go_sem]) ?_
    refine (checks_idle _ _).mono ?_
    rintro y u' w'' ⟨rfl,rfl,rfl⟩
    have d0:(wr.setCell ⟨w.heap.size,0,none⟩ (.int .i64 0)).cell? ⟨w.heap.size,0,none⟩=some (.int .i64 0):=Lib.cell_of_heap hE2 0
    exact ⟨.int .i64 0,by simp [results,Tryz.f35,go_sem,d0],rfl,hB2⟩
set_option maxHeartbeats 1000000 in
theorem words3 (w:World):Calls Tryz.prog 38 #[mla L3] w fun x w'=>∃ g,x = .returned (.slice (some ⟨g,0,none⟩) 2 2)∧w'.cell? ⟨g,0,none⟩=some (.string ⟨#[116,104,101,110]⟩)∧w'.cell? ⟨g,1,none⟩=some (.string ⟨#[59]⟩)∧w.heap.size≤g∧Below w.heap.size w w':=by
 go_enter Tryz.func38,Tryz.ntmps38
 go_wp2_with (go_at_call 68;refine (sign11 _).mono ?_;rintro x w1 ⟨rfl,rfl⟩)
 go_ret
 have hn:=World.alloc_heap_new (w.alloc (.cells (ml1 L3).toArray 44)) (.cells #[.string ⟨#[116,104,101,110]⟩,.string ⟨#[59]⟩] 9)
 rw [World.size_alloc] at hn
 exact ⟨w.heap.size+1,rfl,Lib.cell_of_heap hn 0,Lib.cell_of_heap hn 1,by omega,((Below.refl _ w).alloc (Nat.le_refl _) _).alloc (by simp) _⟩
theorem strCells_bytes (s:ByteArray):Lib.strCells s=Lib.byteCells s.data.toList:=by
 simp [Lib.strCells,Lib.byteCells]
theorem grown_below {W W':World} (hb:Below W.heap.size W W'):W.grownBy W' none:=⟨hb.os,hb.tape,hb.output,hb.size,fun k hk _=>hb.block k hk⟩
theorem row_below {W W':World} {base:Nat} {e:TypeId} {v:Value} {k:Nat} {xs:List Value} (h:W.ownsRow base e 1 v k xs) (hb:Below W.heap.size W W'):W'.ownsRow base e 1 v k xs:=
 h.kept (grown_below hb) (by cases hv:v.ownBlock with | none=>exact .inl rfl | some g=>exact .inr (by simp))
theorem builder_below {T e:TypeId} {B b:Nat} {bs:List Value} {W W':World} (h:Lib.IsBuilder T e B b bs W) (hb:Below W.heap.size W W'):Lib.IsBuilder T e B b bs W':=by
 rcases h with ⟨hB,v,h1,h2,h3⟩ | ⟨hB,v,h1,h2,h3⟩
 · exact .inl ⟨hB,v,(hb.block b (Array.getElem?_eq_some_iff.1 h1).1).trans h1,row_below h2 hb,h3⟩
 · exact .inr ⟨hB,v,(hb.block b (Array.getElem?_eq_some_iff.1 h1).1).trans h1,row_below h2 hb,h3⟩
def thenT:ByteArray:=⟨#[116,104,101,110,32,59,10]⟩
set_option maxHeartbeats 2000000 in
theorem print3 (g c:Nat) (w:World) (h:LB w g L3):Calls Tryz.prog 19 #[.slice (some ⟨g,0,none⟩) 1 c] w fun x w'=>x = .returned (.tuple #[.string thenT,.int .i64 0])∧Below w.heap.size w w':=by
 have H:Hid (LB w g L3):=h
 clear h
 go_enter Tryz.func19,Tryz.ntmps19
 go_wp2_with fail
 refine (check3 g c _ H.out).mono ?_
 rintro x w1 ⟨rfl,hb1⟩
 have H1:Hid (LB w1 g L3∧Below w.heap.size w w1):=⟨H.out.same (hb1.block _ H.out.lt),hb1⟩
 clear hb1 H
 go_wp2
 go_loopw [15] (fun vi wr=>∃ k:Nat,vi = .int .i64 k∧k≤1∧Hid (Lib.IsBuilder 71 5 w1.heap.size w1.heap.size (Lib.byteCells (if k=0 then [] else thenT.data.toList)) wr∧LB wr g L3∧Below w.heap.size w wr∧w1.heap.size≤wr.heap.size)) (fun vi _=>1 - (intOf vi).toNat)
 case atStart=>exact ⟨0,rfl,by omega,Lib.fresh_isBuilder 71 5 w1,H1.out.1.allocs _,H1.out.2.alloc H1.out.2.size _,by simp⟩
 case round=>
  obtain ⟨k,rfl,hk,HR⟩:=hrel
  have hk2:k=0∨k=1:=by omega
  rcases hk2 with rfl | rfl
  · have hL:=HR.out.2.1
    obtain ⟨c0,c1,c2,c3,c4,c5,c6,c7,c8,c9⟩:=(hL).cells
    clear hL
    go_wp2_with fail
    refine (words3 _).mono ?_
    rintro x w2 ⟨q,rfl,hq0,hq1,hqz,hb2⟩
    have hz:=HR.out.2.2.1.size
    have H2:Hid (Lib.IsBuilder 71 5 w1.heap.size w1.heap.size [] w2∧LB w2 g L3∧Below w.heap.size w w2∧w1.heap.size≤w2.heap.size):=⟨builder_below (builder_below HR.out.1 ((Below.refl _ wr).alloc (Nat.le_refl _) _)) hb2,(HR.out.2.1.allocs _).same (hb2.block _ (by have:=HR.out.2.1.lt;simp;omega)),(HR.out.2.2.1.alloc hz _).trans (hb2.mono (by simp;omega)),by have:=hb2.size;have:=HR.out.2.2.2;simp at *;omega⟩
    have hq:∀ (j:Nat) x,[(⟨#[116,104,101,110]⟩:ByteArray),⟨#[59]⟩][j]? = some x→w2.cell? ⟨q,0+j,none⟩=some (.string x):=by
     intro j x hj
     match j,hj with
     | 0,hj=>simp at hj;subst hj;exact hq0
     | 1,hj=>simp at hj;subst hj;exact hq1
    have hqlt:q<w2.heap.size:=by
     obtain ⟨ob,ho,_⟩:=cells_of_cell hq0
     exact (Array.getElem?_eq_some_iff.1 ho).1
    clear HR hb2 c0 c1 c2 c3 c4 c5 c6 c7 c8 c9 hq0 hq1 hqz hz
    go_wp2_with fail
    refine (Tryz.strings_Join q 0 2 [⟨#[116,104,101,110]⟩,⟨#[59]⟩] ⟨#[32]⟩ w2 hq hqlt (by decide) (by decide) (by decide +kernel)).mono ?_
    rintro x w3 ⟨rfl,hb3⟩
    rw [show (⟨(Lib.join (List.map (fun x=>x.data.toList) [(⟨#[116,104,101,110]⟩:ByteArray),⟨#[59]⟩]) (⟨#[32]⟩:ByteArray).data.toList).toArray⟩:ByteArray)=⟨#[116,104,101,110,32,59]⟩ by decide +kernel]
    have H3:Hid (Lib.IsBuilder 71 5 w1.heap.size w1.heap.size [] w3∧LB w3 g L3∧Below w.heap.size w w3∧w1.heap.size≤w3.heap.size):=⟨builder_below H2.out.1 hb3,H2.out.2.1.same (hb3.block _ H2.out.2.1.lt),H2.out.2.2.1.trans (hb3.mono H2.out.2.2.1.size),by have:=hb3.size;have:=H2.out.2.2.2;omega⟩
    clear H2 hb3 hq hqlt
    go_wp2_with fail
    refine (write_any w1.heap.size w1.heap.size [] ⟨#[116,104,101,110,32,59]⟩ w3 H3.out.1 (by decide) H3.out.2.2.2).mono ?_
    rintro x w4 ⟨rfl,hA4,hb4⟩
    have hgl:g<w1.heap.size:=H1.out.1.lt
    have H4:Hid (Lib.BuilderAt 71 5 w1.heap.size w1.heap.size (.pointer (some ⟨w1.heap.size,0,none⟩)) ([]++Lib.strCells ⟨#[116,104,101,110,32,59]⟩) w4∧LB w4 g L3∧Below w.heap.size w w4∧w1.heap.size≤w4.heap.size):=⟨hA4,H3.out.2.1.same (hb4.block _ hgl),H3.out.2.2.1.trans (hb4.mono H1.out.2.size),by have:=hb4.size;have:=H3.out.2.2.2;omega⟩
    clear H3 hA4 hb4
    go_wp2_with fail
    refine (byte_any w1.heap.size w1.heap.size ([]++Lib.strCells ⟨#[116,104,101,110,32,59]⟩) 10 w4 (.inr H4.out.1) (by decide) H4.out.2.2.2).mono ?_
    rintro x w5 ⟨rfl,hA5,hb5⟩
    have hbs:([]++Lib.strCells ⟨#[116,104,101,110,32,59]⟩)++[.int .u8 10]=Lib.byteCells thenT.data.toList:=by rfl
    rw [hbs] at hA5
    have H5:Hid (Lib.BuilderAt 71 5 w1.heap.size w1.heap.size (.pointer (some ⟨w1.heap.size,0,none⟩)) (Lib.byteCells thenT.data.toList) w5∧LB w5 g L3∧Below w.heap.size w w5∧w1.heap.size≤w5.heap.size):=⟨hA5,H4.out.2.1.same (hb5.block _ hgl),H4.out.2.2.1.trans (hb5.mono H1.out.2.size),by have:=hb5.size;have:=H4.out.2.2.2;omega⟩
    clear H4 hA5 hb5 hbs
    go_wp2_with (go_at_call 40;refine (Tryz.Builder_Len w1.heap.size w1.heap.size _ w5 (.inr H5.out.1)).mono ?_;rintro x w6 ⟨rfl,rfl⟩;rw [show (Lib.byteCells thenT.data.toList).length=7 by rfl])
    exact ⟨⟨1,rfl,Nat.le_refl _,.inr H5.out.1,H5.out.2⟩,by decide⟩
  · have HS:Hid (Lib.IsBuilder 71 5 w1.heap.size w1.heap.size (Lib.byteCells thenT.data.toList) wr∧Below w.heap.size w wr∧w1.heap.size≤wr.heap.size):=⟨HR.out.1,HR.out.2.2.1,HR.out.2.2.2⟩
    clear HR
    go_wp2_with (go_at_call 41;refine (Tryz.Builder_String_any w1.heap.size w1.heap.size thenT.data.toList wr HS.out.1 HS.out.2.2).mono ?_;rintro x w6 ⟨rfl,hb6⟩)
    go_ret2
    exact ⟨rfl,HS.out.2.1.trans (hb6.mono H1.out.2.size)⟩
end Go.Proofs
namespace Go.Proofs
open Go.RowKit Go.Shelf
set_option maxRecDepth 100000
attribute [local go_sem] Oper.semAt_some
set_option maxHeartbeats 1000000 in
theorem checks_thrown (P:Nat) (e0 c:Int) (w:World) (hP:w.heap[P]? = some (.cells #[.int .i64 e0] 30 (0,0))) :
 CallsD Tryz.prog 64 #[.pointer (some ⟨P,0,none⟩)] (.panicking [{ v := .iface 30 (.int .i64 c),recovered:=false }]) w fun e u' w'=>
  e = .returned (.tuple #[])∧u' = .panicking [{ v := .iface 30 (.int .i64 c),recovered:=true }]∧w'=w.setCell ⟨P,0,none⟩ (.int .i64 c):=by
 refine callsD_of_wpS Tryz.func64 rfl fun c₀ cs hu => ?_
 apply wpS_seq
 apply wpS_region
 simp [wpOpsS,go_sem,recoverD,hu,Tryz.ntmps64,Exit.thenS]
 refine wpS_of_wp ?_
 have p0:w.cell? ⟨P,0,none⟩=some (.int .i64 e0):=by simp [World.cell?,hP]
 have p1:w.frozen? ⟨P,0,none⟩=false:=by simp [World.frozen?,hP]
 have hta:∀ (v:Value) (w:World),(Instr.typeAssert (.iface 30 v) 20 30 true).run Tryz.prog w = .ok (.tuple #[v,.bool true]) w:=fun _ _=>by kernel_rfl
 go_wp2
 exact ⟨rfl,_,rfl,.tuple #[],by simp [results,Tryz.f64],rfl,rfl,rfl⟩
def ckAll (d:Nat) (ls:List Ln):Int:=(ls.findSome? (ckLn d)).getD 0
theorem ReadsL.cells {w:World} {g z:Nat} {ms:List ML} (h:ReadsL w g z ms) {j:Nat} {m:ML} (hj:ms[j]? = some m) :
 w.cell? ⟨g,z+j*10,none⟩=some (.int .i64 m.k)∧w.cell? ⟨g,z+j*10+1,none⟩=some (.int .i64 m.a)∧w.cell? ⟨g,z+j*10+2,none⟩=some (.string m.t)∧w.cell? ⟨g,z+j*10+3,none⟩=some (.bool m.bg)∧w.cell? ⟨g,z+j*10+4,none⟩=some (.bool m.en)∧w.cell? ⟨g,z+j*10+5,none⟩=some (.slice m.s1.A m.s1.n m.s1.c)∧w.cell? ⟨g,z+j*10+6,none⟩=some (.slice m.s2.A m.s2.n m.s2.c)∧w.cell? ⟨g,z+j*10+7,none⟩=some (.slice m.s3.A m.s3.n m.s3.c)∧w.cell? ⟨g,z+j*10+8,none⟩=some (.slice m.s4.A m.s4.n m.s4.c)∧w.cell? ⟨g,z+j*10+9,none⟩=some (.int .i64 m.cur):=
 ⟨h j m hj 0 _ rfl,h j m hj 1 _ rfl,h j m hj 2 _ rfl,h j m hj 3 _ rfl,h j m hj 4 _ rfl,h j m hj 5 _ rfl,h j m hj 6 _ rfl,h j m hj 7 _ rfl,h j m hj 8 _ rfl,h j m hj 9 _ rfl⟩
set_option maxHeartbeats 4000000 in
theorem checkAll_any (d:Nat) (w:World) (A:Option Addr) (n c:Nat) (ls:List Ln) (h:RdLs d w A n ls) (ht:∀ l∈ls,TzL d l) (hnn:n≤1000000000000000):Calls Tryz.prog 35 #[.slice A n c] w fun x w'=>x = .returned (.int .i64 (ckAll d ls))∧Below w.heap.size w w':=by
 have hmf:∀ (fn:Fn) (first cap:Array Value) (w:World),(Instr.makeFunc fn first cap).run Tryz.prog w = .ok (.func fn first cap) w:=fun _ _ _ _=>rfl
 obtain ⟨ms,hn,hr,hAll⟩:=h
 obtain ⟨E,hE0⟩:∃ E,ckAll d ls=E:=⟨_,rfl⟩
 rw [hE0]
 have H:Hid (n=ms.length∧n=ls.length∧(n=0∨∃ g z,A=some ⟨g,z,none⟩∧ReadsL w g z ms)∧All2 (RdLn d w) ms ls∧(∀ l∈ls,TzL d l)∧ckAll d ls=E):=⟨hn,by have:=hAll.length;omega,hr,hAll,ht,hE0⟩
 clear hn hr hAll ht hE0
 go_enter_defers Tryz.func35,Tryz.ntmps35
 go_wp2
 go_loopw [8] (fun vi wr=>∃ k:Nat,vi = .int .i64 k∧k≤n∧Hid (wr.heap[w.heap.size]? = some (.cells #[.int .i64 0] 30 (0,0))∧Below w.heap.size w wr∧(ls.take k).findSome? (ckLn d)=none)) (fun vi _=>n - (intOf vi).toNat)
 case atStart=>exact ⟨0,rfl,by omega,World.alloc_heap_new _ _,(Below.refl _ w).alloc (Nat.le_refl _) _,rfl⟩
 case round=>
  obtain ⟨k,rfl,hk,HR⟩:=hrel
  obtain ⟨wo,rfl⟩:∃ wo,wo=wr:=⟨_,rfl⟩
  by_cases hkn:k<n
  · have e1:decide ((k:Int)<(n:Int))=true:=by simpa using hkn
    obtain ⟨m,hm⟩:∃ m,ms[k]? = some m:=⟨ms[k]'(by have:=H.out.1;omega),List.getElem?_eq_getElem _⟩
    obtain ⟨i,hi⟩:∃ i,ls[k]? = some i:=⟨ls[k]'(by have:=H.out.2.1;omega),List.getElem?_eq_getElem _⟩
    obtain ⟨g,z,hA,hr⟩:=H.out.2.2.1.resolve_left (by omega)
    subst hA
    have ck:=ck_below HR.out.2.1
    obtain ⟨c0,c1,c2,c3,c4,c5,c6,c7,c8,c9⟩:=hr.cells hm
    have k0:=ck _ _ c0
    have k1:=ck _ _ c1
    have k2:=ck _ _ c2
    have k3:=ck _ _ c3
    have k4:=ck _ _ c4
    have k5:=ck _ _ c5
    have k6:=ck _ _ c6
    have k7:=ck _ _ c7
    have k8:=ck _ _ c8
    have k9:=ck _ _ c9
    have HM:Hid (ms[k]? = some m∧ls[k]? = some i∧RdLn d wo m i∧TzL d i):=⟨hm,hi,(H.out.2.2.2.1.get hm hi).ck ck,H.out.2.2.2.2.1 i (List.mem_of_getElem? hi)⟩
    clear c0 c1 c2 c3 c4 c5 c6 c7 c8 c9 hm hi hr ck
    go_wp2_with fail
    refine (ckLine_any d _ m i (HM.out.2.2.1.ck (ck_below ((Below.refl _ wo).alloc (Nat.le_refl _) _))) HM.out.2.2.2).mono ?_
    intro x w4 hx
    obtain ⟨hg4,hx⟩:=hx
    have hW:w.heap.size<wo.heap.size:=(Array.getElem?_eq_some_iff.1 HR.out.1).1
    have H4:Hid (w4.heap[w.heap.size]? = some (.cells #[.int .i64 0] 30 (0,0))∧Below w.heap.size w w4):=⟨(hg4.below.block _ (by simp;omega)).trans ((Below.heap_alloc _ _ _ hW).trans HR.out.1),(HR.out.2.1.alloc (by omega) _).trans (hg4.below.mono (by simp;omega))⟩
    clear hg4 hW k0 k1 k2 k3 k4 k5 k6 k7 k8 k9
    cases hs:ckLn d i with
    | some cd=>
     rw [hs] at hx
     simp only at hx
     subst hx
     have HE:Hid (E=cd):=by
      show _=_
      rw [←H.out.2.2.2.2.2,ckAll,find_at _ ls k i cd HR.out.2.2 HM.out.2.1 hs]
      rfl
     refine leaves_cons (f:=64) (args:=#[.pointer (some ⟨w.heap.size,0,none⟩)]) (by simp) (by simp [go_sem]) ?_
     refine (checks_thrown _ 0 cd _ H4.out.1).mono ?_
     rintro y u' w'' ⟨rfl,rfl,rfl⟩
     have hE2:(w4.setCell ⟨w.heap.size,0,none⟩ (.int .i64 cd)).heap[w.heap.size]? = some (.cells #[.int .i64 cd] 30 (0,0)):=cells_setS H4.out.1
     have d0:(w4.setCell ⟨w.heap.size,0,none⟩ (.int .i64 cd)).cell? ⟨w.heap.size,0,none⟩=some (.int .i64 cd):=Lib.cell_of_heap hE2 0
     exact ⟨.int .i64 cd,by simp [results,Tryz.f35,go_sem,d0],by rw [HE.out],H4.out.2.setCell (p:=⟨w.heap.size,0,none⟩) (Nat.le_refl _) _⟩
    | none=>
     rw [hs] at hx
     simp only at hx
     subst hx
     have HF:Hid ((ls.take (k+1)).findSome? (ckLn d)=none):=find_more _ ls k i HR.out.2.2 HM.out.2.1 hs
     clear hs
     go_wp2
     exact ⟨⟨k+1,by go_num,by omega,H4.out.1,H4.out.2,HF.out⟩,by simp [intOf];omega⟩
  · have e1:decide ((k:Int)<(n:Int))=false:=by simpa using hkn
    have hE:=HR.out.1
    have p0:wo.cell? ⟨w.heap.size,0,none⟩=some (.int .i64 0):=by simp [World.cell?,hE]
    have p1:wo.frozen? ⟨w.heap.size,0,none⟩=false:=by simp [World.frozen?,hE]
    have HE:Hid (E=0):=by
     show _=_
     have h0:=HR.out.2.2
     rw [List.take_of_length_le (by have:=H.out.2.1;omega)] at h0
     rw [←H.out.2.2.2.2.2,ckAll,h0]
     rfl
    clear hE
    go_wp2
    have hE2:(wo.setCell ⟨w.heap.size,0,none⟩ (.int .i64 0)).heap[w.heap.size]? = some (.cells #[.int .i64 0] 30 (0,0)):=cells_setS HR.out.1
    have hB2:Below w.heap.size w (wo.setCell ⟨w.heap.size,0,none⟩ (.int .i64 0)):=HR.out.2.1.setCell (p:=⟨w.heap.size,0,none⟩) (Nat.le_refl _) _
    refine leaves_cons (f:=64) (args:=#[.pointer (some ⟨w.heap.size,0,none⟩)]) (by simp) (by simp [go_sem]) ?_
    refine (checks_idle _ _).mono ?_
    rintro y u' w'' ⟨rfl,rfl,rfl⟩
    have d0:(wo.setCell ⟨w.heap.size,0,none⟩ (.int .i64 0)).cell? ⟨w.heap.size,0,none⟩=some (.int .i64 0):=Lib.cell_of_heap hE2 0
    exact ⟨.int .i64 0,by simp [results,Tryz.f35,go_sem,d0],by rw [HE.out],hB2⟩
end Go.Proofs
namespace Go.Proofs
open Go.RowKit Go.Shelf
structure GoodK (t:Tok):Prop where
 u:which t=1→0<wd t.u
 nm:which t=36∨which t=58→nameOk (bareN t)=true
 n:which t=3→cpB t.n=true
def GdL (ts:List Tok):Prop:=∀ t∈ts,GoodK t
theorem GdL.tail {ts:List Tok} (h:GdL ts):GdL ts.tail:=fun t ht=>h t (List.mem_of_mem_tail ht)
theorem GdL.pass {ts:List Tok} (h:GdL ts) (n:Int):GdL (passT n ts).2:=by
 unfold passT
 split
 · exact h.tail
 · exact h
def OkG {α:Type} (P:α→Prop) (x:Res α):Prop:=∀ y r,x = .ok y r→P y∧GdL r
theorem OkG.bind {α β:Type} {P:α→Prop} {Q:β→Prop} {x:Res α} {f:α→List Tok→Res β} (h:OkG P x) (k:∀ a r,P a→GdL r→OkG Q (f a r)):OkG Q (x.bind f):=by
 intro y r e
 obtain ⟨a,r1,h1,h2⟩:=bind_ok e
 obtain ⟨k1,k2⟩:=h a r1 h1
 exact k a r1 k1 k2 y r h2
theorem OkG.ok {α:Type} {P:α→Prop} {y:α} {r:List Tok} (h:P y) (hr:GdL r):OkG P (.ok y r):=by
 intro y' r' e
 obtain ⟨rfl,rfl⟩:=Res.ok.inj e
 exact ⟨h,hr⟩
theorem OkG.no {α:Type} {P:α→Prop} {a c:Int} : OkG P (.no a c:Res α):=by
 intro y' r' e
 cases e
theorem okG_want (e n:Int) {ts:List Tok} (h:GdL ts):OkG (fun _=>True) (wantT e n ts):=by
 unfold wantT
 split
 · exact .ok trivial h.tail
 · exact .no
theorem ck_of {may:Nat} {i:It} {sub:Nat→Option Int} (hk:hasK may i.knd=true) (hs:stI (itM i)=true) (h5:i.knd=5→sub 78=none) (h8:i.knd=8→sub 60=none) (h6:i.knd=6→i.rng=true):ckB may i sub=none:=by
 unfold ckB
 rw [hk,hs]
 simp only [Bool.and_self,if_true]
 split
 · exact h5 ‹_›
 · split
   · exact h8 ‹_›
   · split
     · rw [if_pos (h6 ‹_›)]
     · rfl
theorem ckI_of {d may:Nat} {i:It} (hk:hasK may i.knd=true) (hs:stI (itM i)=true) (h5:i.knd=5→∃ d0,d=d0+1∧ckRw (ckI d0 78) i.ps=none) (h8:i.knd=8→∃ d0,d=d0+1∧ckRw (ckI d0 60) i.ps=none) (h6:i.knd=6→i.rng=true):ckI d may i=none:=by
 cases d with
 | zero=>exact ck_of hk hs (fun _=>rfl) (fun _=>rfl) h6
 | succ d=>
  refine ck_of hk hs (fun e => ?_) (fun e => ?_) h6
  · obtain ⟨d0,e1,e2⟩:=h5 e
    obtain rfl:d=d0:=by omega
    exact e2
  · obtain ⟨d0,e1,e2⟩:=h8 e
    obtain rfl:d=d0:=by omega
    exact e2
theorem ckRw_of {f:It→Option Int} {l:List It} (hl:l.length≤512) (h:∀ i∈l,f i=none):ckRw f l=none:=by
 unfold ckRw
 rw [if_neg (by omega),List.findSome?_eq_none_iff]
 exact h
theorem begun_1 {n:Int} (h:begun n=1):n=1:=by
 unfold begun at h
 repeat' split at h
 all_goals omega
theorem begun_2 {n:Int} (h:begun n=2):n=36:=by
 unfold begun at h
 repeat' split at h
 all_goals omega
theorem begun_3 {n:Int} (h:begun n=3):n=58:=by
 unfold begun at h
 repeat' split at h
 all_goals omega
theorem begun_7 {n:Int} (h0:begun n≠0) (h1:begun n≠1) (h2:begun n≠2) (h3:begun n≠3) (h4:begun n≠4) (h5:begun n≠5):n=3∧begun n=7:=by
 unfold begun at h0 h1 h2 h3 h4 h5 ⊢
 repeat' split at h0
 all_goals first | omega | (simp_all)
theorem okG_item (d:Nat) (e:Int) (may:Nat) {sets:List Tok→Res (List It)} {pairs:List Tok→Res It} (h0:may.testBit 0=false) (h87:may.testBit 7=true→may.testBit 8=true)
 (hs:may.testBit 5=true→∃ d0,d=d0+1∧∀ ts,GdL ts→OkG (fun ps=>ckRw (ckI d0 78) ps=none) (sets ts)) (hp:may.testBit 7=true→∃ d0,d=d0+1∧∀ ts,GdL ts→OkG (fun x=>ckI d0 60 x=none) (pairs ts)) {ts:List Tok} (hg:GdL ts) :
 OkG (fun x=>ckI d may x=none) (itemT e may sets pairs ts):=by
 cases ts with
 | nil=>exact .no
 | cons t r=>
  have ht:GoodK t:=hg t List.mem_cons_self
  have hr:GdL r:=hg.tail
  rw [itemT]
  split
  · rename_i hb
    unfold restT
    split
    · rename_i hw
      rw [hw] at hb
      have hu:=ht.u (begun_1 hw)
      split
      · rename_i h6
        simp only [Bool.and_eq_true] at h6
        cases hrt:r.tail with
        | nil=>exact .no
        | cons t2 r2=>
         have hr2:GdL (t2::r2):=by rw [←hrt];exact hr.tail
         rw [upToT]
         split
         · rename_i hw2
           have hu2:=(hr2 t2 List.mem_cons_self).u hw2
           split
           · rename_i hrng
             refine .ok (ckI_of (by simp [hasK,It.knd,h6.1]) (by simp [stI,itM,blankB,hu,hu2]) (fun h=>by simp [It.knd] at h) (fun h=>by simp [It.knd] at h) (fun _=>hrng)) hr2.tail
           · exact .no
         · exact .no
      · exact .ok (ckI_of (by simp [hasK,It.knd,hb]) (by simp [stI,itM,blankB,hu]) (fun h=>by simp [It.knd] at h) (fun h=>by simp [It.knd] at h) (fun h=>by simp [It.knd] at h)) hr
    · rename_i hw
      rw [hw] at hb
      have hn:=ht.nm (.inl (begun_2 hw))
      exact .ok (ckI_of (by simp [hasK,It.knd,hb]) (by simp [stI,itM,blankB,hn]) (fun h=>by simp [It.knd] at h) (fun h=>by simp [It.knd] at h) (fun h=>by simp [It.knd] at h)) hr
    · rename_i hw
      rw [hw] at hb
      have hn:=ht.nm (.inr (begun_3 hw))
      exact .ok (ckI_of (by simp [hasK,It.knd,hb]) (by simp [stI,itM,blankB,hn]) (fun h=>by simp [It.knd] at h) (fun h=>by simp [It.knd] at h) (fun h=>by simp [It.knd] at h)) hr
    · rename_i hw
      rw [hw] at hb
      exact .ok (ckI_of (by simp [hasK,It.knd,hb]) (by simp [stI,itM,blankB]) (fun h=>by simp [It.knd] at h) (fun h=>by simp [It.knd] at h) (fun h=>by simp [It.knd] at h)) hr
    · rename_i hw
      rw [hw] at hb
      obtain ⟨d0,hd,hs⟩:=hs hb
      refine (hs _ (hr.pass 15)).bind fun ps r2 hps hr2=>(okG_want e 19 hr2).bind fun _ r3 _ hr3 => .ok (ckI_of (by simp [hasK,It.knd,hb]) (by simp [stI,itM,blankB]) (fun _=>⟨d0,hd,hps⟩) (fun h=>by simp [It.knd] at h) (fun h=>by simp [It.knd] at h)) hr3
    · rename_i h1 h2 h3 h4 h5
      obtain ⟨hw,hw7⟩:=begun_7 (fun h=>by rw [h,h0] at hb;cases hb) h1 h2 h3 h4 h5
      rw [hw7] at hb
      have hn:=ht.n hw
      split
      · obtain ⟨d0,hd,hp⟩:=hp hb
        refine (hp _ hr.tail).bind fun x r2 hx hr2 => .ok (ckI_of (by simp [hasK,It.knd,h87 hb]) (by simp [stI,itM,blankB,hn]) (fun h=>by simp [It.knd] at h) (fun _=>⟨d0,hd,ckRw_of (by simp [It.ps]) (fun i hi=>by simp [It.ps] at hi;subst hi;exact hx)⟩) (fun h=>by simp [It.knd] at h)) hr2
      · exact .ok (ckI_of (by simp [hasK,It.knd,hb]) (by simp [stI,itM,blankB,hn]) (fun h=>by simp [It.knd] at h) (fun h=>by simp [It.knd] at h) (fun h=>by simp [It.knd] at h)) hr
  · exact .no
theorem okG_row (e:Int) (may:Nat) {item:List Tok→Res It} {P:It→Prop} (hi:∀ ts,GdL ts→OkG P (item ts)):∀ (d:Nat) {ts:List Tok},GdL ts→OkG (fun xs=>xs.length≤d∧∀ x∈xs,P x) (rowT e may item d ts)
 | 0,ts,hg=>by
  rw [rowT]
  split
  · exact .no
  · exact .ok ⟨by simp,by simp⟩ hg
 | d+1,ts,hg=>by
  rw [rowT]
  split
  · refine (hi ts hg).bind fun x r hx hr=>(okG_row e may hi d hr).bind fun xs r2 hxs hr2 => .ok ⟨by have:=hxs.1;simp;omega,fun y hy => ?_⟩ hr2
    rcases List.mem_cons.1 hy with rfl | hy
    · exact hx
    · exact hxs.2 y hy
  · exact .ok ⟨by simp,by simp⟩ hg
theorem OkG.mono {α:Type} {P Q:α→Prop} {x:Res α} (h:OkG P x) (k:∀ y,P y→Q y):OkG Q x:=fun y r e=>⟨k y (h y r e).1,(h y r e).2⟩
theorem okG_part (d:Nat) (e:Int) {ts:List Tok} (h:GdL ts):OkG (fun x=>ckI d 78 x=none) (partT e ts):=okG_item d e 78 (by decide) (fun h=>absurd h (by decide)) (fun h=>absurd h (by decide)) (fun h=>absurd h (by decide)) h
theorem okG_parts (d:Nat) (e:Int) {ts:List Tok} (h:GdL ts):OkG (fun x=>ckRw (ckI d 78) x=none) (partsT e ts):=(okG_row e 78 (fun _=>okG_part d e) 512 h).mono fun _ k=>ckRw_of k.1 k.2
theorem okG_side (d:Nat) (e:Int) (may:Nat) (hm:may=62∨may=60) {ts:List Tok} (h:GdL ts):OkG (fun x=>ckI (d+1) may x=none) (sideT e may ts):=by
 rcases hm with rfl | rfl
 · exact okG_item (d+1) e 62 (by decide) (fun h=>absurd h (by decide)) (fun _=>⟨d,rfl,fun _=>okG_parts d e⟩) (fun h=>absurd h (by decide)) h
 · exact okG_item (d+1) e 60 (by decide) (fun h=>absurd h (by decide)) (fun _=>⟨d,rfl,fun _=>okG_parts d e⟩) (fun h=>absurd h (by decide)) h
theorem okG_piece (d:Nat) (e:Int) {ts:List Tok} (h:GdL ts):OkG (fun x=>ckI (d+1+1) 386 x=none) (pieceT e ts):=okG_item (d+1+1) e 386 (by decide) (fun _=>by decide) (fun h=>absurd h (by decide)) (fun _=>⟨d+1,rfl,fun _=>okG_side d e 60 (.inr rfl)⟩) h
theorem okG_sides (d:Nat) (e:Int) {ts:List Tok} (h:GdL ts):OkG (fun x=>ckRw (ckI (d+1) 62) x=none) (sidesT e ts):=(okG_row e 62 (fun _=>okG_side d e 62 (.inl rfl)) 512 h).mono fun _ k=>ckRw_of k.1 k.2
end Go.Proofs
