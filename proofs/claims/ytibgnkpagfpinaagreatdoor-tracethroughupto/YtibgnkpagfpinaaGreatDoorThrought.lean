/-
  TraceThrough, where what it reads is of bulk at most 1048576: of every two rows of blocks, in every memory in which the table of blocks reads as it is laid: the call returns true; nothing that lay has turned.
-/
import Derived.Test.YtibgnkpagfpinaaGreatDoorMgtt
import Derived.Test.YtibgnkpagfpinaaGreatDoorXkt
import Derived.Test.YtibgnkpagfpinaaGreatDoorXzt
import Derived.Test.YtibgnkpagfpinaaGreatDoorXyt
namespace Go.Proofs.YtibgnkpagfpinaaGreatDoor
open Go.ChangeShapes Go.WideShapes Go.ChangeAt Go.RowKit
set_option maxRecDepth 100000 in
theorem through_contract (H:Type) (enc:TypeId × Value→H) (W:World) (base:Nat) (args:Array Value) (ds gs:List (DataW H)) (before:List MemPlace)
 (hval:∀ (j:Nat) t v,Tryz.f5.params[j]? = some t→args[j]? = some v→Value.okWide Tryz.prog W .any base t v)
 (hW:DataW.Whole enc Tryz.prog Tryz.f5.params.toList Rows.traceThroughSpec.vars false W args.toList ds gs before) (hL:laidMetH Tryz.prog Rows.traceThroughRow.laid W) (hk:Rows.uptoSmall H (ds++gs)=true) :
 Calls Tryz.prog 5 args W fun e W'=>∃ v,e = .returned v∧Rows.traceThroughSpec.post enc Tryz.prog Tryz.f5 false true false false W args v W':=by
 have hW':=hW
 obtain ⟨p,q,hA0,hV,rfl,hfz,hnd⟩:=hW
 have hA:DataW.TrodAll enc Tryz.prog W 0 (fun _=>true) true Tryz.f5.params.toList args.toList ds p:=hA0
 rw [Tryz.params5] at hA hval
 obtain ⟨v0,vs0,d0,ds0,p0,q0,hargs,rfl,rfl,h0,r0⟩:=trodAll_cons hA
 obtain ⟨v1,vs1,d1,ds1,p1,q1,rfl,rfl,rfl,h1,r1⟩:=trodAll_cons r0
 obtain ⟨rfl,rfl,rfl⟩:=trodAll_nil r1
 obtain rfl:args=#[v0,v1]:=by cases args;simp_all
 obtain ⟨rfl,rfl⟩:=trodVars_none hV
 obtain ⟨a0,len0,cap0,rfl⟩:=okWide_slice Tryz.underlying32 (hval 0 32 v0 rfl rfl)
 have h0k:=h0
 obtain ⟨fuel0,hf0⟩:=h0
 obtain ⟨uv0,l0,hc0,hI0,hS0,hF0⟩:=blocks_read (cs:=[.slice a0 len0 cap0]) (by simpa [Value.cells] using hf0)
 obtain rfl:Value.slice a0 len0 cap0=uv0:=by simpa using hc0
 obtain ⟨a1,len1,cap1,rfl⟩:=okWide_slice Tryz.underlying32 (hval 1 32 v1 rfl rfl)
 have h1k:=h1
 obtain ⟨fuel1,hf1⟩:=h1
 obtain ⟨uv1,l1,hc1,hI1,hS1,hF1⟩:=blocks_read (cs:=[.slice a1 len1 cap1]) (by simpa [Value.cells] using hf1)
 obtain rfl:Value.slice a1 len1 cap1=uv1:=by simpa using hc1
 have hb:=of_decide_eq_true hk
 simp only [List.append_nil,Rows.uptoBulkAll] at hb
 have hkl0:=kr_len hI0
 have hkl1:=kr_len hI1
 have hS0b:l0.length*5≤Rows.uptoBulk d0:=hS0
 have hS1b:l1.length*5≤Rows.uptoBulk d1:=hS1
 have hsm0:len0≤300000:=by rw [hkl0];omega
 have hsm1:len1≤300000:=by rw [hkl1];omega
 clear hA0
 simp only [List.append_nil] at hW'
 have hlt0:∀ y∈p0,y.block<W.heap.size:=fun y hy=>hW'.lt y (by simp [hy])
 have hlt1:∀ y∈p1,y.block<W.heap.size:=fun y hy=>hW'.lt y (by simp [hy])
 refine (throughLaw_any _ _ _ l0 _ _ _ l1 W (table hL) (table hL).pos hI0 hI1 hkl0.symm hkl1.symm hsm0 hsm1 hF0 hF1).mono fun e W' ⟨he,hb⟩ => ?_
 subst he
 exact ⟨_,rfl,_,_,_,[],p0++(p1++[]),[],hW',trodAll_mk1 (shut_bool Tryz.underlying4 true),trodAll_cons_mk (Below.trod laidOut (by kernel_rfl) (of_decide_eq_true (by kernel_rfl)) h0k hb hlt0) (trodAll_cons_mk (Below.trod laidOut (by kernel_rfl) (of_decide_eq_true (by kernel_rfl)) h1k hb hlt1) trodAll_mk0),rfl,hb.frame _,fun h=>by cases h⟩
noncomputable def laidWorld (os:Os):World:=
 { World.holding Tryz.prog os ⟨#[],#[],[]⟩ with heap:=(World.holding Tryz.prog os ⟨#[],#[],[]⟩).heap.modify 0 fun
  | .cells _ t frozen => .cells blkV t frozen
  | o=>o }
theorem through_laid (os:Os):laidMet Tryz.prog Rows.traceThroughRow.laid ((laidWorld os).forCall (fun _ _=>0) ⟨#[],#[.slice none 0 0,.slice none 0 0],[]⟩).memory:=
 laidMet_of_run' 8 (by kernel_rfl) (by kernel_rfl)
theorem through_reads (os:Os) {H:Type} (enc:TypeId × Value→H):∃ places,DataW.whole enc Tryz.prog ((laidWorld os).forCall (fun _ _=>0) ⟨#[],#[.slice none 0 0,.slice none 0 0],[]⟩).memory Tryz.f5.params.toList Rows.traceThroughSpec.vars false (#[Value.slice none 0 0,Value.slice none 0 0]:Array Value).toList 8=some ([.nil,.nil],[],places):=
 ⟨[],by kernel_rfl⟩
set_option maxRecDepth 100000 in
theorem through_lifted (os:Os) (started:os.Started) (H:Type) (enc:TypeId × Value→H) (F:Stop.Interp) :
 ReturnsInHanded {} Tryz.checked os 5 .any ((Rows.OpenSpec.upto Rows.traceThroughSpec).preRow enc Tryz.prog Tryz.f5 Rows.traceThroughUptoRow.domain false Rows.traceThroughUptoRow.laid) (((Rows.OpenSpec.upto Rows.traceThroughSpec).at F).post enc Tryz.prog Tryz.f5 false true false false):=by
 obtain ⟨places,hx⟩:=through_reads os enc
 refine returnsInHanded_of_row (C:=Tryz.checked) (s:=Rows.OpenSpec.upto Rows.traceThroughSpec) own started (by kernel_rfl) Tryz.func5
  (witness_row_at (enc:=enc) (C:=Tryz.checked) false (laidWorld os) #[.slice none 0 0,.slice none 0 0] rfl (by kernel_rfl) (by kernel_rfl) (by kernel_rfl)
   (OpenSpec.preRow_of_cond 8 hx (by kernel_rfl) (fun k hk=>by cases hk;kernel_rfl) (by kernel_rfl) (through_laid os))) ?_
 intro W base args ds gs before hval hW _ hcond _ hL _ _
 exact through_contract H enc W base args ds gs before hval hW hL (hcond _ rfl)
theorem through_said:Rows.TraceThroughUptoSaid:=
 OpenClaim.holds_of_cond 5 Tryz.f5 rfl rfl rfl rfl rfl rfl rfl ⟨rfl,rfl,rfl,rfl,rfl⟩ rfl rfl rfl rfl rfl (by kernel_rfl) Tryz.func5 (by kernel_rfl)
  (of_decide_eq_true (by kernel_rfl)) (by unfold Func.isWrapper;first | (rw [if_pos (by decide +kernel)];kernel_rfl) | (rw [if_neg (by decide +kernel)];exact ⟨rfl,rfl⟩))
  (fun os started H enc _ F=>by rw [OpenClaim.pre_eq_preRow];exact through_lifted os started H enc F)
theorem through_plain (f : FuncId) (fn : Func) (hf : Tryz.pinned.checked.prog.funcNamed "respell/respelllaw13.TraceThrough" = some f) (hfn : Tryz.pinned.checked.prog.funcs[f]? = some fn) :
 false=Tryz.pinned.checked.prog.looks []∧∀ (j:Nat) t,fn.params[j]? = some t→Tryz.pinned.checked.prog.wantsStandIn t=false:=by
 obtain rfl : f = 5 := Option.some.inj ((show Tryz.prog.funcNamed "respell/respelllaw13.TraceThrough" = some 5 by kernel_rfl).symm.trans hf) |>.symm
 obtain rfl:fn=Tryz.f5:=(Option.some.inj (Tryz.func5.symm.trans hfn)).symm
 refine ⟨by kernel_rfl,fun j t ht => ?_⟩
 rw [Tryz.params5] at ht
 obtain rfl:t=32:=by simpa using Array.mem_of_getElem? ht
 exact (show Tryz.prog.wantsStandIn 32=false by kernel_rfl)
theorem through_card:Rows.TraceThroughUptoCardSaid:=
 Claim7.holds_tied_plain_at .later [] _ _ _ _ through_said (fun _ h=>by cases h) (by kernel_rfl) (fun _ h=>by cases h) traceThroughUpto_row_tie rfl ⟨rfl,rfl⟩ (by kernel_rfl) rfl through_plain (by kernel_rfl)
end Go.Proofs.YtibgnkpagfpinaaGreatDoor
