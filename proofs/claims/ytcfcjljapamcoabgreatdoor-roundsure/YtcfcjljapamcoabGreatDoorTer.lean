/-
  Join makes the text of units, or tells that a number is none.
-/
import Derived.RangeFuncNested
import Derived.RangeFuncBound
import Derived.RangeFuncCalls
import Derived.RangeFuncLeaves
import Derived.Shelf.Abstract
import Derived.Shelf.RegionOpen
import Derived.WalkKit
import Derived.WalkSpells
import Derived.WalkLawsBesides
import Derived.OwnWalkIn
import Derived.TacticsInMore
import Derived.LoopNIn
import Derived.LoopIn
import Derived.BigQuiet
import Derived.RegionIn
import Derived.Deep.QuietTactic
import Derived.Lib.OthersKept
import Derived.Maps.AppendAt
import Derived.Lib.SmallJoins
import Derived.Lib.IndexBytes
import Derived.Lib.AppendStr
import Derived.Shelf.Strings.Builder1
import Derived.Shelf.Small.Utf8
import Derived.Test.YtcfcjljapamcoabGreatDoorMpbr
import Derived.Test.YtcfcjljapamcoabGreatDoorMper
import Derived.Test.YtcfcjljapamcoabGreatDoorMpdr
namespace Go.Proofs
open Go.RowKit Go.Shelf
set_option maxRecDepth 100000
attribute [local go_sem] Oper.semAt_some
def Tryz.lays169_ren:Go.Shelf.Ren:=⟨fun | 169=>72 | n=>n,fun | 70=>128 | 9=>9 | 0=>0 | 72=>130 | 37=>51 | 127=>154 | 3=>3 | 5=>5 | n=>n,fun | n=>n⟩
theorem Tryz.lays169:Go.Proofs.Lays.n169 Tryz.prog Tryz.lays169_ren := {
 mixed:=by kernel_rfl
 f169:=Tryz.func72.trans (congrArg some (by kernel_rfl))
 t0:=Tryz.underlying0
 a0:=Tryz.isAgg0
 z0:=Tryz.sizeOf0
 v0:=Tryz.zeroValue0
 t3:=Tryz.underlying3
 a3:=Tryz.isAgg3
 z3:=Tryz.sizeOf3
 v3:=Tryz.zeroValue3
 t9:=Tryz.underlying9
 a9:=Tryz.isAgg9
 z9:=Tryz.sizeOf9
 v9:=Tryz.zeroValue9
 t37:=Tryz.underlying51
 a37:=Tryz.isAgg51
 z37:=Tryz.sizeOf51
 v37:=Tryz.zeroValue51
 t70:=Tryz.underlying128
 a70:=Tryz.isAgg128
 z70:=Tryz.sizeOf128
 v70:=Tryz.zeroValue128
 t72:=Tryz.underlying130
 a72:=Tryz.isAgg130
 z72:=Tryz.sizeOf130
 v72:=Tryz.zeroValue130
 t127:=Tryz.underlying154
 a127:=Tryz.isAgg154
 z127:=Tryz.sizeOf154
 v127:=Tryz.zeroValue154 }
theorem Tryz.Builder_Extra_169:Builder.Extra Tryz.prog Tryz.lays169_ren := {
 sizeBuilder:=by kernel_rfl
 liesBuilder:=by kernel_rfl
 t5:=Tryz.underlying5
 a5:=Tryz.isAgg5
 z5:=Tryz.sizeOf5
 v5:=Tryz.zeroValue5
 infoByte:=by kernel_rfl
 cellsByte:=by kernel_rfl
 sizeByte:=by kernel_rfl
 neB5:=by decide }
open Go.RowKit in
open Go.RowKit in
open Go.RowKit in
theorem Tryz.Builder_String_any (B b:Nat) (l:List UInt8) (w:World) (h:Lib.IsBuilder 130 5 B b (Lib.byteCells l) w) (hBw:B≤w.heap.size) :
 Calls Tryz.prog 72 #[.pointer (some ⟨b,0,none⟩)] w fun e w'=>e = .returned (.string ⟨l.toArray⟩)∧Below B w w':=Any.Builder_String_any Tryz.lays169 Tryz.Builder_Extra_169 B b l w h hBw
theorem put_conv (u:Int) (h1:1114240≤u) (h2:u≤1114367) (w:World):(convert 51 9 (.slice (some ⟨w.heap.size,0,none⟩) 1 1)).run Tryz.prog (w.alloc (.cells #[.int .u8 (u - 1114112)] 5)) = .ok (.string ⟨#[UInt8.ofNat (u - 1114112).toNat]⟩) (w.alloc (.cells #[.int .u8 (u - 1114112)] 5)):=by
 have h:=run_convert_bytes_back (P:=Tryz.prog) (w.alloc (.cells #[.int .u8 (u - 1114112)] 5)) 51 9 5 ⟨w.heap.size,0,none⟩ 1 [UInt8.ofNat (u - 1114112).toNat] Tryz.underlying51 Tryz.underlying5 Tryz.underlying9 (fun j hj=>by
  obtain rfl:j=0:=by simp at hj;omega
  have e:((UInt8.ofNat (u - 1114112).toNat).toNat:Int)=u - 1114112:=by rw [UInt8.toNat_ofNat'];omega
  simp only [List.getElem_cons_zero,e]
  simp [Addr.add])
 exact h
set_option maxHeartbeats 400000 in
theorem put_any (u:Int) (w:World):Calls Tryz.prog 71 #[.int .i64 u] w fun e w'=>e = .returned (.string (put u))∧Below w.heap.size w w':=by
 by_cases a:1114240≤u∧u≤1114367
 · rw [put_stray a]
   obtain ⟨a1,a2⟩:=a
   have hcv:=put_conv u a1 a2
   go_enter Tryz.func71,Tryz.ntmps71
   go_wp2_with (go_at_call 57;refine (stray_yes _ _ a1 a2).mono ?_;rintro e w' ⟨rfl,rfl⟩)
   go_ret
   exact ⟨rfl,(Below.refl _ _).alloc (Nat.le_refl _) _⟩
 · have a':u<1114240∨1114367<u:=by omega
   by_cases b:(0≤u∧u<55296)∨(57343<u∧u≤1114111)
   · rw [put_rune b]
     have b0:0≤u:=by omega
     have b1:u≤1114111:=by omega
     have b2:u<55296∨57343<u:=by omega
     clear a b
     go_enter Tryz.func71,Tryz.ntmps71
     go_wp2_with (first | (go_at_call 57;refine (stray_no _ _ a').mono ?_;rintro e w' ⟨rfl,rfl⟩) | (go_at_call 58;refine (isRune_yes _ _ b0 b1 b2).mono ?_;rintro e w' ⟨rfl,rfl⟩))
     go_ret
     exact ⟨rfl,Below.refl _ _⟩
   · have b':u<0∨1114111<u∨(55296≤u∧u≤57343):=by omega
     rw [put_no a' b']
     clear a b
     go_enter Tryz.func71,Tryz.ntmps71
     go_wp2_with (first | (go_at_call 57;refine (stray_no _ _ a').mono ?_;rintro e w' ⟨rfl,rfl⟩) | (go_at_call 58;refine (isRune_no _ _ b').mono ?_;rintro e w' ⟨rfl,rfl⟩))
     go_ret
     exact ⟨rfl,Below.refl _ _⟩
theorem info5:(Tryz.prog.info? 5).map (fun i=>(i.zero,i.size,i.bytes))=some (some (.int .u8 0),1,1):=by kernel_rfl
theorem grown_below {W W':World} (hb:Below W.heap.size W W'):W.grownBy W' none:=⟨hb.os,hb.tape,hb.output,hb.size,fun k hk _=>hb.block k hk⟩
theorem sizeB:(Tryz.prog.info? 130).map (·.size)=some 2:=by kernel_rfl
theorem liesB:liesAt Tryz.prog Tryz.prog.depth 130 (2 / Tryz.prog.cellsOf 130) 0 130 1=true:=by kernel_rfl
set_option maxHeartbeats 1000000 in
theorem check_used (b:Nat) (w:World) (h0:w.cell? ⟨b,0,none⟩=some (.pointer (some ⟨b,0,none⟩))) :
 Calls Tryz.prog 97 #[.pointer (some ⟨b,0,none⟩)] w fun e w'=>e = .returned (.tuple #[])∧w'=w:=by
 obtain ⟨j,hj,_⟩:=Option.map_eq_some_iff.1 sizeB
 have hne:=fun W:World=>Lib.run_neq_ptr_same (P:=Tryz.prog) W ⟨b,0,none⟩ Tryz.underlying128 hj
 go_enter Tryz.func97,Tryz.ntmps97
 go_wp2
 go_end0
 exact ⟨rfl,rfl⟩
set_option maxHeartbeats 1000000 in
theorem check_fresh (b:Nat) (w:World) (h0:w.cell? ⟨b,0,none⟩=some (.pointer none)) (hsh:w.shape? b=some (130,2)) (hfz:w.frozen? ⟨b,0,none⟩=false) :
 Calls Tryz.prog 97 #[.pointer (some ⟨b,0,none⟩)] w fun e w'=>e = .returned (.tuple #[])∧w'=w.setCell ⟨b,0,none⟩ (.pointer (some ⟨b,0,none⟩)):=by
 obtain ⟨j,hj,hjs⟩:=Option.map_eq_some_iff.1 sizeB
 have hne:=fun W:World=>Lib.run_neq_ptr_same (P:=Tryz.prog) W ⟨b,0,none⟩ Tryz.underlying128 hj
 have hto:=Lib.run_to_unsafe (P:=Tryz.prog) w ⟨b,0,none⟩ Tryz.underlying128 Tryz.underlying177 hj (by rw [hjs];decide) hsh (Nat.zero_lt_succ 1)
 have hfr:=Lib.run_from_unsafe (P:=Tryz.prog) w ⟨b,0,none⟩ Tryz.underlying177 Tryz.underlying128 hj hsh liesB
 have hno:(callFunc 118 #[.pointer (some ⟨b,0,none⟩)]).run Tryz.prog w = .ok (.value (.pointer (some ⟨b,0,none⟩))) w:=by
  rw [run_callFunc_extern Tryz.func118 (by kernel_rfl) (by kernel_rfl) (by kernel_rfl) (e:=Extern.AbiNoEscape.same) (by kernel_rfl),Lib.run_noEscape]
  rfl
 go_enter Tryz.func97,Tryz.ntmps97
 go_wp2
 go_end0
 exact ⟨rfl,rfl⟩
theorem bcheck_any (B b:Nat) (bs:List Value) (w:World) (h:Lib.IsBuilder 130 5 B b bs w) :
 Calls Tryz.prog 97 #[.pointer (some ⟨b,0,none⟩)] w fun e w'=>e = .returned (.tuple #[])∧(Lib.BuilderAt 130 5 B b (.pointer (some ⟨b,0,none⟩)) bs w'∧Below B w w'):=by
 rcases h with h | h
 · refine (check_fresh b w h.cell0 h.shape h.frozen0).mono ?_
   rintro e w' ⟨rfl,rfl⟩
   exact ⟨rfl,h.used _,(Below.refl B w).setCell (p:=⟨b,0,none⟩) h.1 _⟩
 · refine (check_used b w h.cell0).mono ?_
   rintro e w' ⟨rfl,rfl⟩
   exact ⟨rfl,h,Below.refl B _⟩
set_option maxHeartbeats 2000000 in
theorem write_any (B b:Nat) (bs:List Value) (s:ByteArray) (w:World) (h:Lib.IsBuilder 130 5 B b bs w) (hlen:bs.length+s.size≤140737488355328) (hBw:B≤w.heap.size) :
 Calls Tryz.prog 70 #[.pointer (some ⟨b,0,none⟩),.string s] w fun e w'=>e = .returned (.tuple #[.int .i64 s.size,.nilIface])∧(Lib.BuilderAt 130 5 B b (.pointer (some ⟨b,0,none⟩)) (bs++Lib.strCells s) w'∧Below B w w'):=by
 obtain ⟨i0,hi,hz0,hz1,hz2⟩:=info_parts info5
 go_enter Tryz.func70,Tryz.ntmps70
 go_wp2_with (go_at_call 97;refine (bcheck_any B b bs _ h).mono ?_)
 rintro e w1 ⟨rfl,h1,hb1⟩
 obtain ⟨hB,v,hbk,hown,hne⟩:=h1
 have hz:=hb1.size
 have c0:w1.cell? ⟨b,0,none⟩=some (.pointer (some ⟨b,0,none⟩)):=by rw [Lib.cell_of_heap hbk];rfl
 have c1:w1.cell? ⟨b,1,none⟩=some v:=by rw [Lib.cell_of_heap hbk];rfl
 go_wp2_with (at_builtin;refine Lib.wpList_append_own_string _ rfl _ _ 51 9 rfl B 5 i0 Tryz.underlying51 Tryz.underlying9 hi hz0 hz1 hz2 _ _ _ rfl hown s rfl ?c3 ?c4 ?c5 ?_)
 case c3=>unfold maxLen;omega
 case c4=>omega
 case c5=>omega
 intro v' w2 hown' hgrow _
 have hlt:b<w1.heap.size:=(Array.getElem?_eq_some_iff.1 hbk).1
 have hb2:w2.heap[b]? = some (.cells #[.pointer (some ⟨b,0,none⟩),v] 130 (0,0)):=by
  rw [hgrow.block b hlt (fun e=>hne e.symm)]
  exact hbk
 have d0:w2.cell? ⟨b,0,none⟩=some (.pointer (some ⟨b,0,none⟩)):=by rw [Lib.cell_of_heap hb2];rfl
 have d1:w2.cell? ⟨b,1,none⟩=some v:=by rw [Lib.cell_of_heap hb2];rfl
 have f1:w2.frozen? ⟨b,1,none⟩=false:=Lib.frozen_of_heap hb2 1
 obtain ⟨ao,n',cap,rfl⟩:∃ ao n' cap,v' = .slice ao n' cap:=by
  rcases hown'.2 with ⟨hv,_⟩ | ⟨g,cap,cur,hv,_⟩
  · exact ⟨_,_,_,hv⟩
  · exact ⟨_,_,_,hv⟩
 go_wp2
 go_ret2
 refine ⟨rfl,?_,?_⟩
 · exact Lib.BuilderAt.put (T:=130) (e:=5) hB hb2 (bs':=bs++Lib.strCells s) (by simpa [Lib.strCells_length] using hown') (by decide)
 · exact (hb1.grown hgrow (by omega) (fun k hk=>(hown.lt k hk).1)).setCell (p:=⟨b,1,none⟩) hB _
def joinB:List Int→Option (List UInt8)
 | []=>some []
 | u::l=>if wd u=0 then none else (joinB l).map ((put u).data.toList ++ ·)
theorem joinB_step {u:Int} {l:List Int} (h:wd u≠0):joinB (u::l)=(joinB l).map ((put u).data.toList ++ ·):=by simp [joinB,h]
theorem put_size_le (u:Int):(put u).size≤4:=by
 by_cases a:1114240≤u∧u≤1114367
 · rw [put_stray a];show 1≤4;decide
 · by_cases b:(0≤u∧u<55296)∨(57343<u∧u≤1114111)
   · rw [put_rune b]
     obtain ⟨c,rfl⟩:∃ c:Nat,u=c:=⟨u.toNat,by omega⟩
     by_cases h1:c<128
     · rw [enc1 c h1,size_lit];simp
     · by_cases h2:c<2048
       · rw [enc2 c (by omega) h2,size_lit];simp
       · by_cases h3:c<65536
         · rw [enc3 c (by omega) h3 (by omega),size_lit];simp
         · rw [enc4 c (by omega) (by omega),size_lit];simp
   · rw [put_no (by omega) (by omega)];exact Nat.zero_le _
theorem strCells_bytes (s:ByteArray):Lib.strCells s=Lib.byteCells s.data.toList:=by
 simp [Lib.strCells,Lib.byteCells]
theorem row_below {W W':World} {base:Nat} {e:TypeId} {v:Value} {k:Nat} {xs:List Value} (h:W.ownsRow base e 1 v k xs) (hb:Below W.heap.size W W'):W'.ownsRow base e 1 v k xs:=
 h.kept (grown_below hb) (by cases hv:v.ownBlock with | none=>exact .inl rfl | some g=>exact .inr (by simp))
theorem builder_below {T e:TypeId} {B b:Nat} {bs:List Value} {W W':World} (h:Lib.IsBuilder T e B b bs W) (hb:Below W.heap.size W W'):Lib.IsBuilder T e B b bs W':=by
 rcases h with ⟨hB,v,h1,h2,h3⟩ | ⟨hB,v,h1,h2,h3⟩
 · exact .inl ⟨hB,v,(hb.block b (Array.getElem?_eq_some_iff.1 h1).1).trans h1,row_below h2 hb,h3⟩
 · exact .inr ⟨hB,v,(hb.block b (Array.getElem?_eq_some_iff.1 h1).1).trans h1,row_below h2 hb,h3⟩
def JoinRes (o:Option (List UInt8)):Value:=match o with
 | some t => .tuple #[.string ⟨t.toArray⟩,.int .i64 0]
 | none => .tuple #[.string ⟨#[]⟩,.int .i64 11]
set_option maxHeartbeats 2000000 in
theorem join_any (v:Value) (l:List Int) (w:World) (hv:Ints w v l) (hl:l.length≤4398046511104) :
 Calls Tryz.prog 46 #[v] w fun e w'=>e = .returned (JoinRes (joinB l))∧Below w.heap.size w w':=by
 obtain ⟨a,cap,rfl,hc⟩:=hv
 obtain ⟨n,hn⟩:∃ n,l.length=n:=⟨_,rfl⟩
 have HN:Hid (l.length=n):=hn
 rw [hn] at hl ⊢
 obtain ⟨R,hR⟩:∃ R,joinB l=R:=⟨_,rfl⟩
 rw [hR]
 go_enter Tryz.func46,Tryz.ntmps46
 go_wp2_with fail
 go_loopw [6,9] (fun _ vi wr=>∃ (k:Nat) (acc:List UInt8),vi = .int .i64 k∧k≤n∧acc.length≤4*k∧Lib.IsBuilder 130 5 w.heap.size w.heap.size (Lib.byteCells acc) wr∧Hid (R=(joinB (l.drop k)).map (acc ++ ·))∧Below w.heap.size w wr) (fun _ vi _=>n - (intOf vi).toNat)
 case atStart=>
  refine ⟨0,[],rfl,Nat.zero_le _,Nat.zero_le _,.inl ⟨Nat.le_refl _,.slice none 0 0,World.alloc_heap_new w _,World.ownsRow_nil _ _ _ _,by simp [Value.ownBlock]⟩,?_,(Below.refl _ _).alloc (Nat.le_refl _) _⟩
  show R=(joinB l).map ([] ++ ·)
  rw [hR];cases R <;> rfl
 case round=>
  obtain ⟨k,acc,rfl,hk,hacc,hB,hJ,hb⟩:=hrel
  by_cases hlt:k<n
  · have hk2:k<l.length:=by rw [hn];exact hlt
    obtain ⟨g,o,rfl,hcell⟩:=hc.resolve_left (fun e=>by rw [e] at hk2;simp at hk2)
    have hcx:=hcell k hk2
    have hgw:g<w.heap.size:=by
     obtain ⟨ob,ho,_⟩:=cells_of_cell hcx
     exact (Array.getElem?_eq_some_iff.1 ho).1
    have hc1:=(hb.cell (p:=⟨g,o+k,none⟩) hgw).trans hcx
    have hJ1:=hJ.out
    rw [List.drop_eq_getElem_cons hk2] at hJ1
    have hget:l[k]?.getD 0=l[k]:=by simp [hk2]
    rw [hget] at hc1
    generalize l[k]=u at hc1 hJ1
    clear hcell hcx hget hJ hc
    have hlt':(k:Int)<(n:Int):=by omega
    by_cases hw:wd u=0
    · have HRN:Hid (R=none):=by show R=none;rw [hJ1];simp [joinB,hw]
      have cW:Hid (∀ W:World,Calls Tryz.prog 37 #[.int .i64 u] W fun e w'=>e = .returned (.int .i64 0)∧w'=W):=fun W=>by have:=width_any u W;rw [hw] at this;exact this
      clear hJ1 hw hR hn
      go_wp2_with (go_at_call 37;refine (cW.out _).mono ?_;rintro e w' ⟨rfl,rfl⟩)
      go_ret2
      exact ⟨by rw [HRN.out];rfl,hb⟩
    · have HJ2:Hid (R=(joinB (l.drop (k+1))).map ((acc++(put u).data.toList) ++ ·)):=by
       show R=_
       rw [hJ1,joinB_step hw,Option.map_map]
       congr 1
       funext t
       simp
      have hps:=put_size_le u
      have hbl:(Lib.byteCells acc).length=acc.length:=Lib.byteCells_length acc
      have HB2:Hid (Lib.byteCells acc++Lib.strCells (put u)=Lib.byteCells (acc++(put u).data.toList)):=by
       show Lib.byteCells acc++Lib.strCells (put u)=Lib.byteCells (acc++(put u).data.toList)
       rw [strCells_bytes];simp [Lib.byteCells]
      have hw0:(wd u == 0)=false:=beq_eq_false_iff_ne.2 hw
      clear hJ1 hw hR hn
      go_wp2_with (first | (go_at_call 37;refine (width_any _ _).mono ?_;rintro e w' ⟨rfl,rfl⟩) | (go_at_call 71;refine (put_any _ _).mono ?_;rintro e w2 ⟨rfl,hb2⟩))
      have hB2:=builder_below hB hb2
      have hbw2:=hb.trans (hb2.mono hb.size)
      refine (write_any w.heap.size w.heap.size (Lib.byteCells acc) (put u) w2 hB2 (by rw [hbl];omega) hbw2.size).mono ?_
      rintro e w3 ⟨rfl,hB3,hb3⟩
      have hB3':Lib.IsBuilder 130 5 w.heap.size w.heap.size (Lib.byteCells (acc++(put u).data.toList)) w3:=by rw [←HB2.out];exact .inr hB3
      have hbw3:=hbw2.trans hb3
      have hal:(acc++(put u).data.toList).length≤4*(k+1):=by rw [List.length_append,←Lib.size_eq];omega
      clear hB hB2 hB3 hb2 hb3 hbw2 hb hc1
      go_wp2
      exact ⟨⟨k+1,_,by go_num,by omega,hal,hB3',HJ2,hbw3⟩,by simp [intOf];omega⟩
  · clear hc
    go_wp2_with (go_at_call 72;refine (Tryz.Builder_String_any w.heap.size w.heap.size acc _ hB hb.size).mono ?_;rintro e w' ⟨rfl,hb2⟩)
    go_ret2
    have hkn:k=n:=by omega
    have hRR:R=some acc:=by
     have:=hJ.out
     rw [List.drop_of_length_le (by rw [hn,hkn];exact Nat.le_refl _)] at this
     rw [this];simp [joinB]
    exact ⟨by rw [hRR];rfl,hb.trans hb2⟩
theorem IR.ints {w:World} {v:Value} {l:List Int} (h:IR w v l):Ints w v l:=by
 obtain ⟨A,c,rfl,_,hr⟩:=h
 refine ⟨A,c,rfl,?_⟩
 rcases hr with hr | ⟨g,o,rfl,hd⟩
 · exact .inl hr
 · exact .inr ⟨g,o,rfl,fun j hj=>by rw [hd j hj];simp [hj]⟩
end Go.Proofs
