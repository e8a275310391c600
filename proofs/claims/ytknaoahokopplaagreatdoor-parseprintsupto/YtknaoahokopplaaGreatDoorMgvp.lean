/-
  Several texts in one (W8p Kap Kcp Kbp Kdp Kep Kfp U3p U4p U5p).
-/
import Derived.Test.YtknaoahokopplaaGreatDoorMgmp
import Derived.Shelf.Abstract
import Derived.Shelf.RegionOpen
import Derived.WalkKit
import Derived.WalkSpells
import Derived.WalkLawsBesides
import Derived.BigQuiet
import Derived.Deep.QuietTactic
import Derived.Deep.LoopGhost
import Derived.Lib.OthersKept
import Derived.WalkMore
import Derived.Test.YtknaoahokopplaaGreatDoorMggp
import Derived.Lib.ParseIntB
import Derived.Lib.ItoaNum
import Derived.Lib.SmallJoins
import Derived.Test.YtknaoahokopplaaGreatDoorMgsp
import Derived.Laws.BytesString
import Derived.Test.YtknaoahokopplaaGreatDoorWcp
import Derived.Test.YtknaoahokopplaaGreatDoorMgpp
namespace Go.Proofs
open Go.RowKit Go.Shelf
set_option maxRecDepth 100000
attribute [local go_sem] Oper.semAt_some
set_option maxHeartbeats 2000000 in
theorem qnamed_any (s:ByteArray) (hs:s.size≤maxLen) (w:World):Calls Tryz.prog 73 #[.string s] w fun e w'=>e = .returned (.bool (nameOk s))∧w'=w:=by
 have hs':(s.size:Int)≤9223372036854775807:=by unfold maxLen at hs;omega
 obtain ⟨n,hn⟩:∃ n,s.size=n:=⟨_,rfl⟩
 go_enter Tryz.func73,Tryz.ntmps73
 go_wp2_with fail
 go_loopw [3] (fun v3 wr=>∃ j:Nat,v3 = .int .i64 j∧j≤s.size∧Hid ((s.data.toList.take j).all isNm=true)∧wr=w) (fun v3 _=>s.size - (intOf v3).toNat)
 case atStart=>exact ⟨0,rfl,by omega,rfl,rfl⟩
 case round=>
  obtain ⟨j,rfl,hj,HA,rfl⟩:=hrel
  by_cases hjn:j<s.size
  · have e1:decide ((j:Int)<(s.size:Int))=true:=by simpa using hjn
    go_wp2
    all_goals first
     | (go_ret
        refine ⟨?_,rfl⟩
        rw [nameOk_no hjn (by simp [isNm,isLt,isDg] at *;omega)]
        rfl)
     | exact ⟨⟨j+1,by go_num,by omega,nameOk_step hjn HA.out (by simp [isNm,isLt,isDg] at *;omega),trivial⟩,by simp [intOf];omega⟩
  · have e1:decide ((j:Int)<(s.size:Int))=false:=by simpa using hjn
    have HN:Hid (nameOk s=(decide (1≤s.size) && decide (s.size≤32))):=nameOk_end hjn HA.out
    go_wp2
    all_goals
     go_ret
     refine ⟨?_,rfl⟩
     rw [HN.out,hn]
     simp
     try (first | omega | (rw [Bool.eq_iff_iff];simp;omega))
def alikeB (a b:MI):Bool:=a.k == b.k && (a.u == b.u && (a.t.toList == b.t.toList && (a.lo == b.lo && (a.hi == b.hi && (a.nt == b.nt && a.key == b.key)))))
set_option maxHeartbeats 4000000 in
theorem alike_any (a b:MI) (w:World):Calls Tryz.prog 151 #[mia a,mia b] w fun e w'=>e = .returned (.bool (alikeB a b))∧Grown w w':=by
 go_enter Tryz.func151,Tryz.ntmps151
 go_wp2
 all_goals go_ret
 all_goals refine ⟨?_,((Grown.refl _).alloc _).alloc _⟩
 all_goals (simp [alikeB, *];try done)
theorem fail_any (B:Nat) (v:Value) (c0 c:Int) (w:World) (h:w.heap[B]? = some (.cells #[v,.int .i64 c0] 84 (0,0))):Calls Tryz.prog 76 #[.pointer (some ⟨B,0,none⟩),.int .i64 c] w fun e w'=>e = .returned (.tuple #[])∧w'=if c0=0 then w.setCell ⟨B,1,none⟩ (.int .i64 c) else w:=by
 have r1:w.cell? ⟨B,1,none⟩=some (.int .i64 c0):=by simp [World.cell?,h]
 have f1:w.frozen? ⟨B,1,none⟩=false:=by simp [World.frozen?,h]
 by_cases h0:c0=0
 · have e0:(c0 == 0)=true:=by simpa using h0
   rw [if_pos h0]
   clear h0 h
   go_enter Tryz.func76,Tryz.ntmps76
   go_wp2
   refine bodyPost_end (results_none rfl _ _ _) rfl ?_
   exact ⟨rfl,rfl⟩
 · have e0:(c0 == 0)=false:=by simpa using h0
   rw [if_neg h0]
   clear h0 h
   go_enter Tryz.func76,Tryz.ntmps76
   go_wp2
   refine bodyPost_end (results_none rfl _ _ _) rfl ?_
   exact ⟨rfl,rfl⟩
end Go.Proofs
namespace Go.Proofs
open Go.RowKit Go.Shelf
set_option maxRecDepth 100000
attribute [local go_sem] Oper.semAt_some
end Go.Proofs
namespace Go.Proofs
open Go.RowKit Go.Shelf
set_option maxRecDepth 100000
attribute [local go_sem] Oper.semAt_some
end Go.Proofs
namespace Go.Proofs
open Go.RowKit Go.Shelf
set_option maxRecDepth 100000
attribute [local go_sem] Oper.semAt_some
end Go.Proofs
namespace Go.Proofs
open Go.RowKit Go.Shelf
set_option maxRecDepth 100000
attribute [local go_sem] Oper.semAt_some
end Go.Proofs
namespace Go.Proofs
open Go.RowKit Go.Shelf
set_option maxRecDepth 100000
attribute [local go_sem] Oper.semAt_some
end Go.Proofs
namespace Go.Proofs
open Go.RowKit Go.Shelf
set_option maxRecDepth 100000
attribute [local go_sem] Oper.semAt_some
end Go.Proofs
namespace Go.Proofs
open Go.RowKit Go.Shelf
set_option maxRecDepth 100000
attribute [local go_sem] Oper.semAt_some
theorem row_stays {W W':World} {base:Nat} {e:TypeId} {v:Value} {n:Nat} {xs:List Value} (h:W.ownsRow base e 1 v n xs) (hw:∀ k,v.ownBlock=some k→W'.heap[k]? = W.heap[k]?):W'.ownsRow base e 1 v n xs:=
 ⟨h.1,h.2.imp id fun ⟨g,cap,cur,e,k1,k2,k3⟩=>⟨g,cap,cur,e,k1,(hw g (by rw [e];rfl)).trans k2,k3⟩⟩
def WR (W:World) (R:Nat) (bs:List UInt8) (c:Int):Prop:=∃ v,W.heap[R]? = some (.cells #[v,.int .i64 c] 84 (0,0))∧W.ownsRow (R+1) 5 1 v bs.length (Lib.byteCells bs)
structure MvW (W W':World) (R:Nat):Prop where
 size:W.heap.size≤W'.heap.size
 bel:Below R W W'
 oth:∀ (k:Nat) (o:Obj),W.heap[k]? = some o→k≠R→(∀ cur fz,o ≠ .cells cur 5 fz)→W'.heap[k]? = some o
theorem MvW.refl (W:World) (R:Nat):MvW W W R:=⟨Nat.le_refl _,Below.refl _ _,fun _ _ h _ _=>h⟩
theorem MvW.trans {W W' W'':World} {R:Nat} (h:MvW W W' R) (k:MvW W' W'' R):MvW W W'' R:=
 ⟨Nat.le_trans h.size k.size,h.bel.trans k.bel,fun j o hj hR h5=>k.oth j o (h.oth j o hj hR h5) hR h5⟩
theorem MvW.of_below {W W':World} {R:Nat} (hR:R≤W.heap.size) (h:Below W.heap.size W W'):MvW W W' R:=
 ⟨h.size,h.mono hR,fun j _ hj _ _=>(h.block j (Array.getElem?_eq_some_iff.1 hj).1).trans hj⟩
theorem WR.lt {W:World} {R:Nat} {bs:List UInt8} {c:Int} (h:WR W R bs c):R<W.heap.size:=by
 obtain ⟨v,h1,_⟩:=h
 exact (Array.getElem?_eq_some_iff.1 h1).1
theorem WR.below {W W':World} {R:Nat} {bs:List UInt8} {c:Int} (h:WR W R bs c) (hb:Below W.heap.size W W'):WR W' R bs c:=by
 have hl:=h.lt
 obtain ⟨v,h1,h2⟩:=h
 exact ⟨v,(hb.block R hl).trans h1,row_stays h2 fun k hk=>hb.block k (World.ownsRow.lt h2 k hk).2⟩
theorem IB.mvW {W W':World} {R B:Nat} {m:MI} (h:IB W B m) (hm:MvW W W' R) (hB:B≠R):IB W' B m:=hm.oth B _ h hB (fun _ _ e=>by cases e)
theorem LB.mvW {W W':World} {R B:Nat} {m:ML} (h:LB W B m) (hm:MvW W W' R) (hB:B≠R):LB W' B m:=hm.oth B _ h hB (fun _ _ e=>by cases e)
def WQ (W:World) (R:Nat) (bs:List UInt8) (c:Int) (x:Ending) (W':World):Prop:=x = .returned (.tuple #[])∧WR W' R bs c∧MvW W W' R
def fc (c0 c:Int):Int:=if c0=0 then c else c0
theorem qfail_any {W:World} {R:Nat} {bs:List UInt8} {c0:Int} (c:Int) (h:WR W R bs c0):Calls Tryz.prog 76 #[.pointer (some ⟨R,0,none⟩),.int .i64 c] W (WQ W R bs (fc c0 c)):=by
 have hl:=h.lt
 obtain ⟨v,h1,h2⟩:=h
 refine (fail_any R v c0 c W h1).mono ?_
 rintro x w' ⟨rfl,rfl⟩
 refine ⟨rfl,?_,?_⟩
 · unfold fc
   split
   · refine ⟨v,?_,?_⟩
     · exact cells_setS h1
     · exact row_stays h2 fun k hk=>heap_set_other _ (by have:=(World.ownsRow.lt h2 k hk).1;omega) _ _
   · exact ⟨v,h1,h2⟩
 · split
   · exact ⟨by simp,(Below.refl _ _).setCell (p:=⟨R,1,none⟩) (Nat.le_refl _) _,fun k o hk hR _=>(heap_set_other _ hR _ _).trans hk⟩
   · exact MvW.refl _ _
set_option maxHeartbeats 2000000 in
theorem qput_any {W:World} {R:Nat} {bs:List UInt8} {c:Int} (s:ByteArray) (h:WR W R bs c) (hl:bs.length+s.size≤140737488355328):Calls Tryz.prog 72 #[.pointer (some ⟨R,0,none⟩),.string s] W (WQ W R (bs++s.data.toList) c):=by
 obtain ⟨i0,hi,hz0,hz1,hz2⟩:=info_parts info5
 have hlt:=h.lt
 obtain ⟨v,h1,h2⟩:=h
 have c0:W.cell? ⟨R,0,none⟩=some v:=by rw [Lib.cell_of_heap h1];rfl
 have H:Hid (W.heap[R]? = some (.cells #[v,.int .i64 c] 84 (0,0))∧W.ownsRow (R+1) 5 1 v bs.length (Lib.byteCells bs)):=⟨h1,h2⟩
 clear h1 h2
 go_enter Tryz.func72,Tryz.ntmps72
 go_wp2_with (at_builtin;refine Lib.wpList_append_own_string _ rfl _ _ 50 9 rfl (R+1) 5 i0 Tryz.underlying50 Tryz.underlying9 hi hz0 hz1 hz2 _ _ _ rfl H.out.2 s rfl ?c3 ?c4 ?c5 ?_)
 case c3=>unfold maxLen;omega
 case c4=>omega
 case c5=>omega
 intro v' w2 hown' hgrow _
 have hne:v.ownBlock≠some R:=fun e=>by have:=(World.ownsRow.lt H.out.2 R e).1;omega
 have hb2:w2.heap[R]? = some (.cells #[v,.int .i64 c] 84 (0,0)):=(hgrow.block R hlt (fun e=>hne e.symm)).trans H.out.1
 have f0:w2.frozen? ⟨R,0,none⟩=false:=Lib.frozen_of_heap hb2 0
 have d0:w2.cell? ⟨R,0,none⟩=some v:=by rw [Lib.cell_of_heap hb2];rfl
 obtain ⟨ao,n',cap,rfl⟩:∃ ao n' cap,v' = .slice ao n' cap:=by
  rcases hown'.2 with ⟨hv,_⟩ | ⟨g,cap,cur,hv,_⟩
  · exact ⟨_,_,_,hv⟩
  · exact ⟨_,_,_,hv⟩
 have HF:Hid (WR (w2.setCell ⟨R,0,none⟩ (.slice ao n' cap)) R (bs++s.data.toList) c∧MvW W (w2.setCell ⟨R,0,none⟩ (.slice ao n' cap)) R):=by
  refine ⟨⟨_,cells_setS hb2,?_⟩,?_⟩
  · have e1:(bs++s.data.toList).length=bs.length+s.size:=by rw [List.length_append,Array.length_toList];rfl
    have e2:Lib.byteCells (bs++s.data.toList)=Lib.byteCells bs++Lib.strCells s:=by simp [Lib.byteCells,Lib.strCells]
    rw [e1,e2]
    exact row_stays hown' fun k hk=>heap_set_other _ (by have:=(World.ownsRow.lt hown' k hk).1;omega) _ _
  · refine ⟨by have:=hgrow.size;simpa using this,?_,fun k o hk hR h5 => ?_⟩
    · exact ((Below.refl R W).grown hgrow (by omega) (fun k hk=>by have:=(World.ownsRow.lt H.out.2 k hk).1;omega)).setCell (p:=⟨R,0,none⟩) (Nat.le_refl _) _
    · refine (heap_set_other _ hR _ _).trans ((hgrow.block k (Array.getElem?_eq_some_iff.1 hk).1 (fun e => ?_)).trans hk)
      rcases H.out.2.2 with ⟨hv,_⟩ | ⟨g,cap',cur,hv,_,hg,_⟩
      · rw [hv] at e;cases e
      · rw [hv] at e
        cases e
        rw [hg] at hk
        cases hk
        exact h5 _ _ rfl
 clear hb2 hown' hgrow hne hl
 go_wp2
 refine bodyPost_end (results_none rfl _ _ _) rfl ?_
 exact ⟨rfl,HF.out.1,HF.out.2⟩
end Go.Proofs
namespace Go.Proofs
open Go.RowKit Go.Shelf
set_option maxRecDepth 100000
attribute [local go_sem] Oper.semAt_some
set_option maxHeartbeats 2000000 in
theorem qunit_any {W:World} {R:Nat} {bs:List UInt8} {c0:Int} (u:Int) (h:WR W R bs c0) (hl:bs.length≤100000000000000):Calls Tryz.prog 152 #[.pointer (some ⟨R,0,none⟩),.int .i64 u] W (WQ W R (bs++(unitS u).data.toList) (if wd u=0 then fc c0 50 else c0)):=by
 obtain ⟨e,-,hw,he⟩:=unitS_spec u
 have HL:=h.lt
 have H:Hid (WR W R bs c0):=h
 have hsz:(unitS u).size≤100:=by
  rcases he with he | he
  · omega
  · exact he.2.2.1
 obtain ⟨s,hs⟩:∃ s,unitS u=s:=⟨_,rfl⟩
 rw [hs] at hw hsz ⊢
 have HSZ:Hid (bs.length+s.size≤140737488355328):=by show _≤_;omega
 by_cases hu:wd u=0
 · obtain rfl:e=1:=by
    rcases he with he | he
    · exact he.2.1
    · exact absurd hu he.1
   rw [if_pos hu]
   clear h hs hsz he hl hu
   go_enter Tryz.func152,Tryz.ntmps152
   go_wp2_with fail
   refine (hw.out _).mono ?_
   rintro x w1 ⟨rfl,hb⟩
   have H1:Hid (WR w1 R bs c0∧MvW W w1 R):=⟨H.out.below hb,MvW.of_below (by omega) hb⟩
   clear hb
   go_wp2_with fail
   refine (qfail_any 50 H1.out.1).mono ?_
   rintro x w2 ⟨rfl,h2,m2⟩
   have H2:Hid (WR w2 R bs (fc c0 50)∧MvW W w2 R):=⟨h2,H1.out.2.trans m2⟩
   clear h2 m2 H1
   go_wp2_with fail
   refine (qput_any s H2.out.1 HSZ.out).mono ?_
   rintro x w3 ⟨rfl,h3,m3⟩
   have H3:Hid (WR w3 R (bs++s.data.toList) (fc c0 50)∧MvW W w3 R):=⟨h3,H2.out.2.trans m3⟩
   clear h3 m3 H2
   go_wp2
   refine bodyPost_end (results_none rfl _ _ _) rfl ?_
   exact ⟨rfl,H3.out.1,H3.out.2⟩
 · obtain rfl:e=0:=by
    rcases he with he | he
    · exact absurd he.1 hu
    · exact he.2.1
   rw [if_neg hu]
   have hu0:(wd u == 0)=false:=by simpa using hu
   have HW:Hid (∀ w:World,Calls Tryz.prog 125 #[.int .i64 u] w fun e w'=>e = .returned (.int .i64 (wd u))∧w'=w):=fun w=>rwidth_any u w
   obtain ⟨d,hd⟩:∃ d,wd u=d:=⟨_,rfl⟩
   rw [hd] at HW hu0
   clear h hs hsz he hl hu hd
   go_enter Tryz.func152,Tryz.ntmps152
   go_wp2_with fail
   refine (hw.out _).mono ?_
   rintro x w1 ⟨rfl,hb⟩
   have H1:Hid (WR w1 R bs c0∧MvW W w1 R):=⟨H.out.below hb,MvW.of_below (by omega) hb⟩
   clear hb
   go_wp2_with fail
   refine (HW.out _).mono ?_
   rintro x w2 ⟨rfl,rfl⟩
   go_wp2_with fail
   refine (qput_any s H1.out.1 HSZ.out).mono ?_
   rintro x w3 ⟨rfl,h3,m3⟩
   have H3:Hid (WR w3 R (bs++s.data.toList) c0∧MvW W w3 R):=⟨h3,H1.out.2.trans m3⟩
   clear h3 m3 H1
   go_wp2
   refine bodyPost_end (results_none rfl _ _ _) rfl ?_
   exact ⟨rfl,H3.out.1,H3.out.2⟩
theorem quo10 (n:Nat) (hn:n≤999999999) (W:World):(binOp .quo 3 (.int .i64 n) (.int .i64 10)).run Tryz.prog W = .ok (.int .i64 ((n / 10:Nat):Int)) W:=by
 go_simp
 simp [IntKind.wrap,IntKind.signed,IntKind.bits]
 omega
theorem dec_step (m:Nat) (hm:0<m):Lib.decDigits m=(if m / 10=0 then [] else Lib.decDigits (m / 10))++[UInt8.ofNat (48+m % 10)]:=by
 by_cases h:m<10
 · rw [Lib.decDigits,dif_pos h,if_pos (by omega),show m % 10=m by omega]
   rfl
 · rw [Lib.decDigits,dif_neg h,if_neg (by omega)]
set_option maxHeartbeats 2000000 in
theorem qnumber_any (n:Int) (h:cpB n=true) (w:World):Calls Tryz.prog 153 #[.int .i64 n] w fun x w'=>x = .returned (.string ⟨(Lib.itoa n).toArray⟩)∧Below w.heap.size w w':=by
 have hl:=copyS_small h
 unfold cpB at h
 simp only [Bool.and_eq_true,decide_eq_true_eq] at h
 obtain ⟨N,rfl⟩:∃ N:Nat,n=(N:Int):=⟨n.toNat,by omega⟩
 have hit:Lib.itoa (N:Int)=Lib.decDigits N:=by
  unfold Lib.itoa
  rw [if_neg (by omega)]
  rfl
 have hlen:=Lib.itoa_length_le (N:Int) (by omega) (by omega)
 rw [hit] at hlen ⊢
 obtain ⟨D,hD⟩:∃ D,Lib.decDigits N=D:=⟨_,rfl⟩
 have HD:Hid (Lib.decDigits N=D∧D.length≤21∧N≤999999999∧1≤N):=⟨hD,by rw [←hD];exact hlen,by omega,by omega⟩
 rw [hD]
 clear hl hit hlen hD h
 go_enter Tryz.func153,Tryz.ntmps153
 go_wp2_with fail
 go_loopw [0,3] (fun v0 v3 wr=>∃ (m:Nat) (s:ByteArray),v0 = .int .i64 m∧v3 = .string s∧m≤999999999∧s.size≤21∧Hid (D=(if m=0 then [] else Lib.decDigits m)++s.data.toList∧Below w.heap.size w wr)) (fun v0 _ _=>(intOf v0).toNat)
 case atStart=>exact ⟨N,⟨#[]⟩,rfl,rfl,HD.out.2.2.1,by decide,by rw [if_neg (by have:=HD.out.2.2.2;omega),HD.out.1];simp,Below.refl _ _⟩
 case round=>
  obtain ⟨m,s,rfl,rfl,hm,hs,HR⟩:=hrel
  obtain ⟨wo,rfl⟩:∃ wo,wo=wr:=⟨_,rfl⟩
  by_cases hm0:0<m
  · have e1:decide ((0:Int)<(m:Int))=true:=by simpa using hm0
    have hq:=quo10 m hm
    have hcv:∀ wx:World,(convert 50 9 (.slice (some ⟨wx.heap.size,0,none⟩) 1 1)).run Tryz.prog (wx.alloc (.cells #[.int .u8 (48+(m:Int) % 10)] 5)) = .ok (.string ⟨#[UInt8.ofNat (48+m % 10)]⟩) (wx.alloc (.cells #[.int .u8 (48+(m:Int) % 10)] 5)):=fun wx=>by
     have:=conv1 (48+m % 10) (by omega) wx
     rwa [show ((48+m % 10:Nat):Int)=48+(m:Int) % 10 by omega] at this
    have HX:Hid (D=(if m / 10=0 then [] else Lib.decDigits (m / 10))++((⟨#[UInt8.ofNat (48+m % 10)]⟩:ByteArray)++s).data.toList):=by
     show D=_
     rw [HR.out.1,if_neg (by omega),dec_step m hm0,List.append_assoc]
     simp
    have hsz2:((⟨#[UInt8.ofNat (48+m % 10)]⟩:ByteArray)++s).size=1+s.size:=by rw [ByteArray.size_append];rfl
    have hs2:1+s.size≤21:=by
     have h1:=congrArg List.length HX.out
     have h4:((⟨#[UInt8.ofNat (48+m % 10)]⟩:ByteArray)++s).data.toList.length=1+s.size:=by rw [Array.length_toList];exact hsz2
     rw [List.length_append,h4] at h1
     have h2:=HD.out.2.1
     omega
    have HS2:Hid (((⟨#[UInt8.ofNat (48+m % 10)]⟩:ByteArray)++s).size≤21):=by show _≤_;omega
    obtain ⟨c,hc⟩:∃ c,UInt8.ofNat (48+m % 10)=c:=⟨_,rfl⟩
    rw [hc] at hsz2 HX HS2
    simp only [hc] at hcv
    clear hc
    go_wp2
    exact ⟨⟨m / 10,_,rfl,rfl,by omega,HS2.out,HX.out,HR.out.2.alloc HR.out.2.size _⟩,by simp [intOf];omega⟩
  · obtain rfl:m=0:=by omega
    have HF:Hid ((⟨D.toArray⟩:ByteArray)=s):=by
     show (⟨D.toArray⟩:ByteArray)=s
     rw [HR.out.1,if_pos rfl]
     rfl
    go_wp2
    go_ret
    exact ⟨by rw [HF.out];rfl,HR.out.2⟩
end Go.Proofs
namespace Go.Proofs
open Go.RowKit Go.Shelf
set_option maxRecDepth 100000
attribute [local go_sem] Oper.semAt_some
set_option maxHeartbeats 2000000 in
theorem qbare_any (a b:MI) (w:World):Calls Tryz.prog 120 #[mia a,mia b] w fun e w'=>e = .returned (.bool (alikeB a { b with k:=a.k }))∧Grown w w':=by
 have H:Hid (∀ W:World,Calls Tryz.prog 151 #[mia a,mia { b with k:=a.k }] W fun e w'=>e = .returned (.bool (alikeB a { b with k:=a.k }))∧Grown W w'):=fun W=>alike_any a { b with k:=a.k } W
 have h1:IB ((w.alloc (.cells (mi1 a).toArray 58)).alloc (.cells (mi1 b).toArray 58)) (w.heap.size+1) b:=by
  have:=IB.new (w.alloc (.cells (mi1 a).toArray 58)) b
  rwa [World.size_alloc] at this
 go_enter Tryz.func120,Tryz.ntmps120
 go_wp2_with fail
 refine (H.out _).mono ?_
 rintro x w1 ⟨rfl,hg⟩
 have HG:Hid (Grown w w1):=(((Grown.refl w).alloc _).alloc _).trans hg
 clear hg
 go_wp2
 go_ret
 exact ⟨rfl,HG.out⟩
end Go.Proofs
