/-
  TraceThree: of every three rows of sizes, in every memory in which the table of blocks reads as it is laid: the call returns true; nothing that lay has turned.
-/
import Derived.Test.YtpopemkhhdekcaaDoorMgrp
import Derived.Test.YtpopemkhhdekcaaDoorXsp
import Derived.Test.YtpopemkhhdekcaaDoorXzp
import Derived.Test.YtpopemkhhdekcaaDoorXyp
namespace Go.Proofs.YtpopemkhhdekcaaDoor
open Go.ChangeShapes Go.WideShapes Go.ChangeAt Go.RowKit Go.WideMaps Go.WideElems
set_option maxRecDepth 100000 in
theorem three_contract (H:Type) (enc:TypeId × Value→H) (W:World) (base:Nat) (args:Array Value) (ds gs:List (DataW H)) (before:List MemPlace)
 (hval:∀ (j:Nat) t v,Tryd.f5.params[j]? = some t→args[j]? = some v→Value.okWide Tryd.prog W .any base t v)
 (hW:DataW.Whole enc Tryd.prog Tryd.f5.params.toList Rows.traceThreeSpec.vars false W args.toList ds gs before) (hL:laidMetH Tryd.prog Rows.traceThreeRow.laid W) :
 Calls Tryd.prog 5 args W fun e W'=>∃ v,e = .returned v∧Rows.traceThreeSpec.post enc Tryd.prog Tryd.f5 false true false false W args v W':=by
 have hW':=hW
 obtain ⟨p,q,hA0,hV,rfl,hfz,hnd⟩:=hW
 have hA:DataW.TrodAll enc Tryd.prog W 0 (fun _=>true) true Tryd.f5.params.toList args.toList ds p:=hA0
 rw [Tryd.params5] at hA hval
 obtain ⟨v0,vs0,d0,ds0,p0,q0,hargs,rfl,rfl,h0,r0⟩:=trodAll_cons hA
 obtain ⟨v1,vs1,d1,ds1,p1,q1,rfl,rfl,rfl,h1,r1⟩:=trodAll_cons r0
 obtain ⟨v2,vs2,d2,ds2,p2,q2,rfl,rfl,rfl,h2,r2⟩:=trodAll_cons r1
 obtain ⟨rfl,rfl,rfl⟩:=trodAll_nil r2
 obtain rfl:args=#[v0,v1,v2]:=by cases args;simp_all
 obtain ⟨rfl,rfl⟩:=trodVars_none hV
 obtain ⟨a0,len0,cap0,rfl⟩:=okWide_slice Tryd.underlying36 (hval 0 36 v0 rfl rfl)
 have h0k:=h0
 obtain ⟨fuel0,hf0⟩:=h0
 obtain ⟨l0,hI0,hbl0⟩:=sizes_of_read Tryd.underlying36 (by simpa [Value.cells] using hf0)
 obtain ⟨a1,len1,cap1,rfl⟩:=okWide_slice Tryd.underlying36 (hval 1 36 v1 rfl rfl)
 have h1k:=h1
 obtain ⟨fuel1,hf1⟩:=h1
 obtain ⟨l1,hI1,hbl1⟩:=sizes_of_read Tryd.underlying36 (by simpa [Value.cells] using hf1)
 obtain ⟨a2,len2,cap2,rfl⟩:=okWide_slice Tryd.underlying36 (hval 2 36 v2 rfl rfl)
 have h2k:=h2
 obtain ⟨fuel2,hf2⟩:=h2
 obtain ⟨l2,hI2,hbl2⟩:=sizes_of_read Tryd.underlying36 (by simpa [Value.cells] using hf2)
 clear hA0
 simp only [List.append_nil] at hW'
 have hlt0:∀ y∈p0,y.block<W.heap.size:=fun y hy=>hW'.lt y (by simp [hy])
 have hlt1:∀ y∈p1,y.block<W.heap.size:=fun y hy=>hW'.lt y (by simp [hy])
 have hlt2:∀ y∈p2,y.block<W.heap.size:=fun y hy=>hW'.lt y (by simp [hy])
 refine (three_walk _ _ _ l0 _ _ _ l1 _ _ _ l2 W hI0 hbl0 hI1 hbl1 hI2 hbl2 (table hL) (table hL).pos).mono fun e W' ⟨he,hb⟩ => ?_
 subst he
 exact ⟨_,rfl,_,_,_,[],p0++(p1++(p2++[])),[],hW',trodAll_mk1 (shut_bool Tryd.underlying4 true),trodAll_cons_mk (Below.trod laidOut (by kernel_rfl) (of_decide_eq_true (by kernel_rfl)) h0k hb hlt0) (trodAll_cons_mk (Below.trod laidOut (by kernel_rfl) (of_decide_eq_true (by kernel_rfl)) h1k hb hlt1) (trodAll_cons_mk (Below.trod laidOut (by kernel_rfl) (of_decide_eq_true (by kernel_rfl)) h2k hb hlt2) trodAll_mk0)),rfl,hb.frame _,fun h=>by cases h⟩
noncomputable def laidWorld (os:Os):World:=
 { World.holding Tryd.prog os ⟨#[],#[],[]⟩ with heap:=(World.holding Tryd.prog os ⟨#[],#[],[]⟩).heap.modify 0 fun
  | .cells _ t frozen => .cells blkV t frozen
  | o=>o }
theorem three_laid (os:Os):laidMet Tryd.prog Rows.traceThreeRow.laid ((laidWorld os).forCall (fun _ _=>0) ⟨#[],#[.slice none 0 0,.slice none 0 0,.slice none 0 0],[]⟩).memory:=
 laidMet_of_run' 8 (by kernel_rfl) (by kernel_rfl)
theorem three_reads (os:Os) {H:Type} (enc:TypeId × Value→H):∃ places,DataW.whole enc Tryd.prog ((laidWorld os).forCall (fun _ _=>0) ⟨#[],#[.slice none 0 0,.slice none 0 0,.slice none 0 0],[]⟩).memory Tryd.f5.params.toList Rows.traceThreeSpec.vars false (#[Value.slice none 0 0,Value.slice none 0 0,Value.slice none 0 0]:Array Value).toList 8=some ([.nil,.nil,.nil],[],places):=
 ⟨[],by kernel_rfl⟩
set_option maxRecDepth 100000 in
theorem three_lifted (os:Os) (started:os.Started) (H:Type) (enc:TypeId × Value→H) (F:Stop.Interp) :
 ReturnsInHanded {} Tryd.checked os 5 .any ((OpenSpec.ofChange Rows.traceThreeSpec).preRow enc Tryd.prog Tryd.f5 Rows.traceThreeRow.domain false Rows.traceThreeRow.laid) (((OpenSpec.ofChange Rows.traceThreeSpec).at F).post enc Tryd.prog Tryd.f5 false true false false):=by
 obtain ⟨places,hx⟩:=three_reads os enc
 refine returnsInHanded_of_row (C:=Tryd.checked) (s:=OpenSpec.ofChange Rows.traceThreeSpec) own started (by kernel_rfl) Tryd.func5
  (witness_row_at (enc:=enc) (C:=Tryd.checked) false (laidWorld os) #[.slice none 0 0,.slice none 0 0,.slice none 0 0] rfl (by kernel_rfl) (by kernel_rfl) (by kernel_rfl)
   (OpenSpec.preRow_of_cond 8 hx (by kernel_rfl) (fun k hk=>by cases hk) (by kernel_rfl) (three_laid os))) ?_
 intro W base args ds gs before hval hW _ _ _ hL _ _
 exact three_contract H enc W base args ds gs before hval hW hL
theorem three_said:Rows.TraceThreeSaid:=
 OpenClaim.holds_of_cond 5 Tryd.f5 rfl rfl rfl rfl rfl rfl rfl ⟨rfl,rfl,rfl,rfl,rfl⟩ rfl rfl rfl rfl rfl (by kernel_rfl) Tryd.func5 (by kernel_rfl)
  (of_decide_eq_true (by kernel_rfl)) (by unfold Func.isWrapper;first | (rw [if_pos (by decide +kernel)];kernel_rfl) | (rw [if_neg (by decide +kernel)];exact ⟨rfl,rfl⟩))
  (fun os started H enc _ F=>by rw [OpenClaim.pre_eq_preRow];exact three_lifted os started H enc F)
theorem three_plain (f : FuncId) (fn : Func) (hf : Tryd.pinned.checked.prog.funcNamed "respell/respelllaw13.TraceThree" = some f) (hfn : Tryd.pinned.checked.prog.funcs[f]? = some fn) :
 false=Tryd.pinned.checked.prog.looks []∧∀ (j:Nat) t,fn.params[j]? = some t→Tryd.pinned.checked.prog.wantsStandIn t=false:=by
 obtain rfl : f = 5 := Option.some.inj ((show Tryd.prog.funcNamed "respell/respelllaw13.TraceThree" = some 5 by kernel_rfl).symm.trans hf) |>.symm
 obtain rfl:fn=Tryd.f5:=(Option.some.inj (Tryd.func5.symm.trans hfn)).symm
 refine ⟨by kernel_rfl,fun j t ht => ?_⟩
 rw [Tryd.params5] at ht
 obtain rfl:t=36:=by simpa using Array.mem_of_getElem? ht
 exact (show Tryd.prog.wantsStandIn 36=false by kernel_rfl)
theorem three_card:Rows.TraceThreeCardSaid:=
 Claim7.holds_tied_plain_at .later [] _ _ _ _ three_said (fun _ h=>by cases h) (by kernel_rfl) (fun _ h=>by cases h) traceThree_row_tie rfl ⟨rfl,rfl⟩ (by kernel_rfl) rfl three_plain (by kernel_rfl)
end Go.Proofs.YtpopemkhhdekcaaDoor
