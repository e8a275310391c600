/-
  set.Any 50 and set.Strays 136.
-/
import Derived.Test.YtcfcjljapamcoaaGreatDoorYhn
namespace Go.Proofs
open Go.RowKit Go.Shelf
set_option maxRecDepth 100000
attribute [local go_sem] Oper.semAt_some
theorem idxT0 (w:World):(Instr.index 119 (.agg #[.int .i64 0,.int .i64 55295,.int .i64 57344,.int .i64 1114111,.int .i64 1114240,.int .i64 1114367]) (.int .i64 0)).run Tryz.prog w = .ok (.agg #[.int .i64 0,.int .i64 55295]) w:=by kernel_rfl
theorem idxT1 (w:World):(Instr.index 119 (.agg #[.int .i64 0,.int .i64 55295,.int .i64 57344,.int .i64 1114111,.int .i64 1114240,.int .i64 1114367]) (.int .i64 1)).run Tryz.prog w = .ok (.agg #[.int .i64 57344,.int .i64 1114111]) w:=by kernel_rfl
theorem idxT2 (w:World):(Instr.index 119 (.agg #[.int .i64 0,.int .i64 55295,.int .i64 57344,.int .i64 1114111,.int .i64 1114240,.int .i64 1114367]) (.int .i64 2)).run Tryz.prog w = .ok (.agg #[.int .i64 1114240,.int .i64 1114367]) w:=by kernel_rfl
set_option maxHeartbeats 1000000 in
theorem setAny_any (w:World) (hT:Tab w):Calls Tryz.prog 50 #[] w fun e w'=>∃ v,e = .returned v∧OwnR w' w.heap.size v allU∧Below w.heap.size w w':=by
 have t0:=hT.cell 0 (.int .i64 0) rfl
 have t1:=hT.cell 1 (.int .i64 55295) rfl
 have t2:=hT.cell 2 (.int .i64 57344) rfl
 have t3:=hT.cell 3 (.int .i64 1114111) rfl
 have t4:=hT.cell 4 (.int .i64 1114240) rfl
 have t5:=hT.cell 5 (.int .i64 1114367) rfl
 go_enter Tryz.func50,Tryz.ntmps50
 go_wp2
 clear t0 t1 t2 t3 t4 t5
 go_loopw [1,5] (fun vs vi wr=>∃ k:Nat,vi = .int .i64 k∧k≤3∧OwnR wr w.heap.size vs (allU.take k)∧Below w.heap.size w wr) (fun _ vi _=>3 - (intOf vi).toNat)
 case atStart=>exact ⟨0,rfl,by omega,OwnR.nil _ _,Below.refl _ _⟩
 case round=>
  obtain ⟨k,rfl,hk,hO,hB⟩:=hrel
  have hz:=hB.size
  have hk5:k=0∨k=1∨k=2∨k=3:=by omega
  rcases hk5 with rfl | rfl | rfl | rfl
  · have hix:=idxT0
    go_wp2_with (at_builtin;go_must (refine push_R rfl _ _ 40 rfl Tryz.underlying40 w.heap.size _ _ rfl ((hO.alloc _).alloc _) _ _ 0 55295 rfl (by simp) (by simp) (by decide) (by simp;omega) ?_);intro v' w1 hO1 _ hb1)
    exact ⟨⟨1,rfl,by omega,hO1,((hB.alloc hz _).alloc (by simp;omega) _).trans hb1⟩,by simp [intOf]⟩
  · have hix:=idxT1
    go_wp2_with (at_builtin;go_must (refine push_R rfl _ _ 40 rfl Tryz.underlying40 w.heap.size _ _ rfl ((hO.alloc _).alloc _) _ _ 57344 1114111 rfl (by simp) (by simp) (by decide) (by simp;omega) ?_);intro v' w1 hO1 _ hb1)
    exact ⟨⟨2,rfl,by omega,hO1,((hB.alloc hz _).alloc (by simp;omega) _).trans hb1⟩,by simp [intOf]⟩
  · have hix:=idxT2
    go_wp2_with (at_builtin;go_must (refine push_R rfl _ _ 40 rfl Tryz.underlying40 w.heap.size _ _ rfl ((hO.alloc _).alloc _) _ _ 1114240 1114367 rfl (by simp) (by simp) (by decide) (by simp;omega) ?_);intro v' w1 hO1 _ hb1)
    exact ⟨⟨3,rfl,by omega,hO1,((hB.alloc hz _).alloc (by simp;omega) _).trans hb1⟩,by simp [intOf]⟩
  · go_wp2
    go_ret
    exact ⟨_,rfl,hO,hB⟩
theorem rg_sliceT {w:World} {g o:Nat} {l:List (Int × Int)} (h:Reads w g o l) (a:Nat):Reads w g (o+a*2) (l.drop a):=fun j hj=>by
 rw [List.length_drop] at hj
 have:=h (a+j) (by omega)
 rw [show rg (l.drop a) j=rg l (a+j) by simp only [rg];rw [List.getElem?_drop],show o+a*2+j*2=o+(a+j)*2 by omega]
 exact this
set_option maxHeartbeats 1000000 in
theorem setStrays_any (w:World) (hT:Tab w):Calls Tryz.prog 136 #[] w fun e w'=>∃ v,e = .returned v∧Rs w' v [(1114240,1114367)]∧Below w.heap.size w w':=by
 have HC:Hid (Calls Tryz.prog 50 #[] w fun e w'=>∃ v,e = .returned v∧OwnR w' w.heap.size v allU∧Below w.heap.size w w'):=setAny_any w hT
 go_enter Tryz.func136,Tryz.ntmps136
 go_wp2_with fail
 refine HC.out.mono ?_
 rintro e w1 ⟨v,rfl,hO,hB⟩
 obtain ⟨g,cap,rfl⟩:=Joins.ownsRow_form hO (by decide)
 have hr:=OwnR.rs hO
 have hcp:3≤cap:=by obtain ⟨_,_,hs,hcp,_⟩:=hr;cases hs;exact hcp
 have hr2:=rg_sliceT (OwnR.reads hO) 2
 have hc2:(3:Int)≤(cap:Int):=by omega
 clear hO hr
 go_wp2
 go_ret
 exact ⟨_,rfl,⟨_,1,rfl,Nat.le_refl _,.inr ⟨g,4,rfl,hr2⟩⟩,hB⟩
end Go.Proofs
