/-
  Several texts in one (U0p Jpp).
-/
import Derived.Deep.RegionLaw
import Derived.Test.YtknaoahokopplaaGreatDoorMgrp
import Derived.Shelf.Abstract
import Derived.WalkKit
import Derived.WalkSpells
import Derived.WalkLawsBesides
import Derived.Lib.OthersKept
import Derived.Maps.AppendAt
import Derived.Lib.SmallJoins
import Derived.Lib.IndexBytes
import Derived.Lib.AppendStr
import Derived.Shelf.Strings.Builder1
import Derived.WalkMore
import Derived.Test.YtknaoahokopplaaGreatDoorMgap
import Derived.Test.YtknaoahokopplaaGreatDoorMgbp
namespace Go.Proofs
open Go.RowKit Go.Shelf
set_option maxRecDepth 100000
attribute [local go_sem] Oper.semAt_some
set_option maxHeartbeats 8000000 in
theorem lineWords_2 (k a:Int) (hk3:k≠3) (hk1:k≠1) (t:ByteArray) (bg en:Bool) (s1 s2 s3 s4:SL) (cur:Int) (w:World) (S R:List ByteArray) (hS:S.length≤5000) (hR:R.length≤5000)
 (h70:∀ W,Below w.heap.size w W→Calls Tryz.prog 70 #[mla ⟨k,a,t,bg,en,s1,s2,s3,s4,cur⟩] W fun x w'=>∃ v,x = .returned v∧OwnX w' (W.heap.size+1) v S∧Below W.heap.size W w')
 (h71:∀ W,Below w.heap.size w W→Calls Tryz.prog 71 #[mla ⟨k,a,t,bg,en,s1,s2,s3,s4,cur⟩] W fun x w'=>∃ v,x = .returned v∧OwnX w' (W.heap.size+1) v R∧Below W.heap.size W w') :
 Calls Tryz.prog 38 #[mla ⟨k,a,t,bg,en,s1,s2,s3,s4,cur⟩] w (LwQ w (S++[⟨#[62]⟩]++R)):=by
 have H68:Hid (∀ W,Calls Tryz.prog 68 #[.int .i64 10] W fun e w'=>e = .returned (.string ⟨#[62]⟩)∧w'=W):=fun W=>sign_r 10 62 (by decide +kernel) W
 have H70:Hid (∀ W,Below w.heap.size w W→Calls Tryz.prog 70 #[mla ⟨k,a,t,bg,en,s1,s2,s3,s4,cur⟩] W fun x w'=>∃ v,x = .returned v∧OwnX w' (W.heap.size+1) v S∧Below W.heap.size W w'):=h70
 have H71:Hid (∀ W,Below w.heap.size w W→Calls Tryz.prog 71 #[mla ⟨k,a,t,bg,en,s1,s2,s3,s4,cur⟩] W fun x w'=>∃ v,x = .returned v∧OwnX w' (W.heap.size+1) v R∧Below W.heap.size W w'):=h71
 have HS0:Hid (SWd w (w.alloc (.cells (ml1 ⟨k,a,t,bg,en,s1,s2,s3,s4,cur⟩).toArray 44)) ⟨k,a,t,bg,en,s1,s2,s3,s4,cur⟩ (.slice none 0 0) []):=SWd.new _ _
 have e3:(k == 3)=false:=by simpa using hk3
 have e1:(k == 1)=false:=by simpa using hk1
 clear h70 h71 hk3 hk1
 go_enter Tryz.func38,Tryz.ntmps38
 go_upto_region 6 with fail
 have hz0:=HS0.out.sz
 obtain ⟨k0,k1,k2,k3,k4,k5,k6,k7,k8,k9⟩:=HS0.out.lb.cells
 go_region_law (first
  | (go_simp;go_at_call 70;go_must (refine (H70.out _ ?_).mono ?_;(first | exact HS0.out.bl | exact HS0.out.bl.drew);rintro x w2 ⟨y2,rfl,hO2,hb2⟩;have H2:=Hid.mk2 (SWd.mk ((HS0.out.after (Below.trans (by first | exact Below.refl _ _ | exact (Below.refl _ _).drew) hb2)).lb) ((HS0.out.after (Below.trans (by first | exact Below.refl _ _ | exact (Below.refl _ _).drew) hb2)).bl) (hO2.le (by simp)) ((HS0.out.after (Below.trans (by first | exact Below.refl _ _ | exact (Below.refl _ _).drew) hb2)).sz));(obtain ⟨p0,p1,p2,p3,p4,p5,p6,p7,p8,p9⟩:=H2.out.lb.cells);clear hO2 hb2))
  | (go_simp;go_at_call 68;go_must (refine (H68.out _).mono ?_;rintro x w3 ⟨rfl,rfl⟩;have a0:=fun o=>cell_up p0 o;have a1:=fun o=>cell_up p1 o;have a2:=fun o=>cell_up p2 o;have a3:=fun o=>cell_up p3 o;have a4:=fun o=>cell_up p4 o;have a5:=fun o=>cell_up p5 o;have a6:=fun o=>cell_up p6 o;have a7:=fun o=>cell_up p7 o;have a8:=fun o=>cell_up p8 o;have a9:=fun o=>cell_up p9 o))
  | (go_simp;go_at_call 71;go_must (refine (H71.out _ H8.out.bl).mono ?_;rintro x w5 ⟨y5,rfl,hO5,hb5⟩;have H5:=Hid.mk2 (And.intro (H8.out.after hb5) hO5.rdT);clear hO5 hb5))
  | (refine step_appX rfl (.tmp 23) (.tmp 25) rfl (w.heap.size+1) _ S rfl (H2.out.alloc _).own _ [⟨#[62]⟩] rfl (RdT.new (by simp)) (by simp;omega) (by have:=H2.out.sz;simp;omega) ?_;intro v8 w8 hO8 hg8;have H8:=Hid.mk2 ((H2.out.alloc _).app hO8 hg8);(obtain ⟨b0,b1,b2,b3,b4,b5,b6,b7,b8,b9⟩:=H8.out.lb.cells);clear hO8 hg8)
  | (refine step_appX rfl (.tmp 26) (.tmp 28) rfl (w.heap.size+1) _ (S++[(⟨#[62]⟩:ByteArray)]) rfl H5.out.1.own _ R rfl H5.out.2 (by simp;omega) H5.out.1.sz ?_;intro v9 w9 hO9 hg9;have H9:=Hid.mk2 (And.intro hO9.rdT (H5.out.1.app hO9 hg9).bl);clear hO9 hg9))
 all_goals go_wp2
 all_goals go_ret
 all_goals exact ⟨_,rfl,(by have h:=H9.out.1;rw [List.append_assoc] at h;exact h),H9.out.2⟩
end Go.Proofs
namespace Go.Proofs
open Go.RowKit Go.Shelf
set_option maxRecDepth 100000
attribute [local go_sem] Oper.semAt_some
theorem info5:(Tryz.prog.info? 5).map (fun i=>(i.zero,i.size,i.bytes))=some (some (.int .u8 0),1,1):=by kernel_rfl
theorem sizeB:(Tryz.prog.info? 71).map (·.size)=some 2:=by kernel_rfl
theorem liesB:liesAt Tryz.prog Tryz.prog.depth 71 (2 / Tryz.prog.cellsOf 71) 0 71 1=true:=by kernel_rfl
set_option maxHeartbeats 1000000 in
theorem check_used (b:Nat) (w:World) (h0:w.cell? ⟨b,0,none⟩=some (.pointer (some ⟨b,0,none⟩))) :
 Calls Tryz.prog 66 #[.pointer (some ⟨b,0,none⟩)] w fun e w'=>e = .returned (.tuple #[])∧w'=w:=by
 obtain ⟨j,hj,_⟩:=Option.map_eq_some_iff.1 sizeB
 have hne:=fun W:World=>Lib.run_neq_ptr_same (P:=Tryz.prog) W ⟨b,0,none⟩ Tryz.underlying69 hj
 go_enter Tryz.func66,Tryz.ntmps66
 go_wp2
 go_end0
 exact ⟨rfl,rfl⟩
set_option maxHeartbeats 1000000 in
theorem check_fresh (b:Nat) (w:World) (h0:w.cell? ⟨b,0,none⟩=some (.pointer none)) (hsh:w.shape? b=some (71,2)) (hfz:w.frozen? ⟨b,0,none⟩=false) :
 Calls Tryz.prog 66 #[.pointer (some ⟨b,0,none⟩)] w fun e w'=>e = .returned (.tuple #[])∧w'=w.setCell ⟨b,0,none⟩ (.pointer (some ⟨b,0,none⟩)):=by
 obtain ⟨j,hj,hjs⟩:=Option.map_eq_some_iff.1 sizeB
 have hne:=fun W:World=>Lib.run_neq_ptr_same (P:=Tryz.prog) W ⟨b,0,none⟩ Tryz.underlying69 hj
 have hto:=Lib.run_to_unsafe (P:=Tryz.prog) w ⟨b,0,none⟩ Tryz.underlying69 Tryz.underlying129 hj (by rw [hjs];decide) hsh (Nat.zero_lt_succ 1)
 have hfr:=Lib.run_from_unsafe (P:=Tryz.prog) w ⟨b,0,none⟩ Tryz.underlying129 Tryz.underlying69 hj hsh liesB
 have hno:(callFunc 114 #[.pointer (some ⟨b,0,none⟩)]).run Tryz.prog w = .ok (.value (.pointer (some ⟨b,0,none⟩))) w:=by
  rw [run_callFunc_extern Tryz.func114 (by kernel_rfl) (by kernel_rfl) (by kernel_rfl) (e:=Extern.AbiNoEscape.same) (by kernel_rfl),Lib.run_noEscape]
  rfl
 go_enter Tryz.func66,Tryz.ntmps66
 go_wp2
 go_end0
 exact ⟨rfl,rfl⟩
theorem check_any (B b:Nat) (bs:List Value) (w:World) (h:Lib.IsBuilder 71 5 B b bs w) :
 Calls Tryz.prog 66 #[.pointer (some ⟨b,0,none⟩)] w fun e w'=>e = .returned (.tuple #[])∧(Lib.BuilderAt 71 5 B b (.pointer (some ⟨b,0,none⟩)) bs w'∧Below B w w'):=by
 rcases h with h | h
 · refine (check_fresh b w h.cell0 h.shape h.frozen0).mono ?_
   rintro e w' ⟨rfl,rfl⟩
   exact ⟨rfl,h.used _,(Below.refl B w).setCell (p:=⟨b,0,none⟩) h.1 _⟩
 · refine (check_used b w h.cell0).mono ?_
   rintro e w' ⟨rfl,rfl⟩
   exact ⟨rfl,h,Below.refl B _⟩
set_option maxHeartbeats 2000000 in
theorem write_any (B b:Nat) (bs:List Value) (s:ByteArray) (w:World) (h:Lib.IsBuilder 71 5 B b bs w) (hlen:bs.length+s.size≤140737488355328) (hBw:B≤w.heap.size) :
 Calls Tryz.prog 36 #[.pointer (some ⟨b,0,none⟩),.string s] w fun e w'=>e = .returned (.tuple #[.int .i64 s.size,.nilIface])∧(Lib.BuilderAt 71 5 B b (.pointer (some ⟨b,0,none⟩)) (bs++Lib.strCells s) w'∧Below B w w'):=by
 obtain ⟨i0,hi,hz0,hz1,hz2⟩:=info_parts info5
 go_enter Tryz.func36,Tryz.ntmps36
 go_wp2_with (go_at_call 66;refine (check_any B b bs _ h).mono ?_)
 rintro e w1 ⟨rfl,h1,hb1⟩
 obtain ⟨hB,v,hbk,hown,hne⟩:=h1
 have hz:=hb1.size
 have c0:w1.cell? ⟨b,0,none⟩=some (.pointer (some ⟨b,0,none⟩)):=by rw [Lib.cell_of_heap hbk];rfl
 have c1:w1.cell? ⟨b,1,none⟩=some v:=by rw [Lib.cell_of_heap hbk];rfl
 go_wp2_with (at_builtin;refine Lib.wpList_append_own_string _ rfl _ _ 50 9 rfl B 5 i0 Tryz.underlying50 Tryz.underlying9 hi hz0 hz1 hz2 _ _ _ rfl hown s rfl ?c3 ?c4 ?c5 ?_)
 case c3=>unfold maxLen;omega
 case c4=>omega
 case c5=>omega
 intro v' w2 hown' hgrow _
 have hlt:b<w1.heap.size:=(Array.getElem?_eq_some_iff.1 hbk).1
 have hb2:w2.heap[b]? = some (.cells #[.pointer (some ⟨b,0,none⟩),v] 71 (0,0)):=by
  rw [hgrow.block b hlt (fun e=>hne e.symm)]
  exact hbk
 have d0:w2.cell? ⟨b,0,none⟩=some (.pointer (some ⟨b,0,none⟩)):=by rw [Lib.cell_of_heap hb2];rfl
 have d1:w2.cell? ⟨b,1,none⟩=some v:=by rw [Lib.cell_of_heap hb2];rfl
 have f1:w2.frozen? ⟨b,1,none⟩=false:=Lib.frozen_of_heap hb2 1
 obtain ⟨ao,n',cap,rfl⟩:∃ ao n' cap,v' = .slice ao n' cap:=by
  rcases hown'.2 with ⟨hv,_⟩ | ⟨g,cap,cur,hv,_⟩
  · exact ⟨_,_,_,hv⟩
  · exact ⟨_,_,_,hv⟩
 go_wp2
 go_ret2
 refine ⟨rfl,?_,?_⟩
 · exact Lib.BuilderAt.put (T:=71) (e:=5) hB hb2 (bs':=bs++Lib.strCells s) (by simpa [Lib.strCells_length] using hown') (by decide)
 · exact (hb1.grown hgrow (by omega) (fun k hk=>(hown.lt k hk).1)).setCell (p:=⟨b,1,none⟩) hB _
set_option maxHeartbeats 2000000 in
theorem byte_any (B b:Nat) (bs:List Value) (c:Int) (w:World) (h:Lib.IsBuilder 71 5 B b bs w) (hlen:bs.length+1≤140737488355328) (hBw:B≤w.heap.size) :
 Calls Tryz.prog 39 #[.pointer (some ⟨b,0,none⟩),.int .u8 c] w fun e w'=>e = .returned .nilIface∧(Lib.BuilderAt 71 5 B b (.pointer (some ⟨b,0,none⟩)) (bs++[.int .u8 c]) w'∧Below B w w'):=by
 obtain ⟨i0,hi,hz0,hz1,hz2⟩:=info_parts info5
 go_enter Tryz.func39,Tryz.ntmps39
 go_wp2_with (go_at_call 66;refine (check_any B b bs _ h).mono ?_)
 rintro e w1 ⟨rfl,h1,hb1⟩
 obtain ⟨hB,v,hbk,hown,hne⟩:=h1
 have hz:=hb1.size
 have hlt:b<w1.heap.size:=(Array.getElem?_eq_some_iff.1 hbk).1
 have c0:w1.cell? ⟨b,0,none⟩=some (.pointer (some ⟨b,0,none⟩)):=by rw [Lib.cell_of_heap hbk];rfl
 have c1:w1.cell? ⟨b,1,none⟩=some v:=by rw [Lib.cell_of_heap hbk];rfl
 have hown2:(w1.alloc (.cells #[.int .u8 c] 5)).ownsRow B 5 1 v bs.length bs:=World.ownsRow.alloc hown _
 go_wp2_with (at_builtin;refine wpList_append_own _ rfl _ _ 50 rfl B 5 i0 _ 1 1 Tryz.underlying50 hi hz0 hz1 hz2 rfl (by decide) _ _ _ rfl hown2 ⟨w1.heap.size,0,none⟩ 1 1 [.int .u8 c] rfl rfl ?c1 ?c2 ?c3 ?c4 ?c5 ?_)
 case c1=>
  intro j u hj
  match j,hj with
  | 0,hj=>
   simp at hj
   subst hj
   have hn:=World.alloc_heap_new w1 (.cells #[.int .u8 c] 5)
   show (w1.alloc (.cells #[.int .u8 c] 5)).cell? ⟨w1.heap.size,0,none⟩=_
   rw [Lib.cell_of_heap hn]
   rfl
 case c2=>intro u hu;simp at hu;subst hu;rfl
 case c3=>unfold maxLen;omega
 case c4=>omega
 case c5=>simp;omega
 intro v' w2 hown' hgrow _
 have hb2:w2.heap[b]? = some (.cells #[.pointer (some ⟨b,0,none⟩),v] 71 (0,0)):=by
  rw [hgrow.block b (by simp;omega) (fun e=>hne e.symm)]
  exact (Below.heap_alloc _ _ _ hlt).trans hbk
 have d0:w2.cell? ⟨b,0,none⟩=some (.pointer (some ⟨b,0,none⟩)):=by rw [Lib.cell_of_heap hb2];rfl
 have d1:w2.cell? ⟨b,1,none⟩=some v:=by rw [Lib.cell_of_heap hb2];rfl
 have f1:w2.frozen? ⟨b,1,none⟩=false:=Lib.frozen_of_heap hb2 1
 obtain ⟨ao,n',cap,rfl⟩:∃ ao n' cap,v' = .slice ao n' cap:=by
  rcases hown'.2 with ⟨hv,_⟩ | ⟨g,cap,cur,hv,_⟩
  · exact ⟨_,_,_,hv⟩
  · exact ⟨_,_,_,hv⟩
 go_wp2
 go_ret
 refine ⟨rfl,?_,?_⟩
 · exact Lib.BuilderAt.put (T:=71) (e:=5) hB hb2 (bs':=bs++[.int .u8 c]) (by simpa using hown') (by decide)
 · exact ((hb1.alloc (by omega) _).grown hgrow (by simp;omega) (fun k hk=>(hown.lt k hk).1)).setCell (p:=⟨b,1,none⟩) hB _
end Go.Proofs
