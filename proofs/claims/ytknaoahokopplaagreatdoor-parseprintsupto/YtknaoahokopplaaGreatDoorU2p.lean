/-
  Printing, walked.
-/
import Derived.Test.YtknaoahokopplaaGreatDoorMgtp
namespace Go.Proofs
open Go.RowKit Go.Shelf
set_option maxRecDepth 100000
attribute [local go_sem] Oper.semAt_some
theorem byteCells_app (a b:List UInt8):Lib.byteCells (a++b)=Lib.byteCells a++Lib.byteCells b:=by simp [Lib.byteCells]
theorem byteCells_len (a:List UInt8):(Lib.byteCells a).length=a.length:=by simp [Lib.byteCells]
set_option maxHeartbeats 4000000 in
theorem print_any (d:Nat) (w:World) (A:Option Addr) (n c:Nat) (ls:List Ln) (h:RdLz d w A n ls) (ht:∀ l∈ls,TzL d l) (hnn:n≤1000000000000000) (hE:Env w) :
 Calls Tryz.prog 19 #[.slice A n c] w fun x w'=>x = .returned (.tuple #[.string (printS d ls).1,.int .i64 (printS d ls).2])∧Below w.heap.size w w':=by
 have hck:=checkAll_any d w A n c ls h.rd ht hnn
 have hln:=h.rd.len
 obtain ⟨ms,hn,hr,hAll⟩:=h
 have H:Hid (n=ms.length∧n=ls.length∧(n=0∨∃ g z,A=some ⟨g,z,none⟩∧ReadsL w g z ms)∧All2 (RdLc d w) ms ls∧Env w):=⟨hn,hln,hr,hAll,hE⟩
 have HCK:Hid (Calls Tryz.prog 35 #[.slice A n c] w fun x w'=>x = .returned (.int .i64 (ckAll d ls))∧Below w.heap.size w w'):=hck
 obtain ⟨S,hS⟩:∃ S,printS d ls=S:=⟨_,rfl⟩
 have HS:Hid (printS d ls=S):=hS
 rw [hS]
 clear hS hck hn hr hAll hE hln ht
 by_cases hc:ckAll d ls=0
 · have HC:Hid (ckAll d ls=0):=hc
   go_enter Tryz.func19,Tryz.ntmps19
   go_wp2_with fail
   refine HCK.out.mono ?_
   rintro x w1 ⟨rfl,hb1⟩
   rw [hc]
   have H1:Hid (Below w.heap.size w w1):=hb1
   clear hb1 hc HCK
   go_wp2
   go_loopw [15] (fun vi wr=>∃ k:Nat,vi = .int .i64 k∧k≤n∧Hid (Lib.IsBuilder 71 5 w1.heap.size w1.heap.size (Lib.byteCells (outS (ls.take k))) wr∧Below w.heap.size w wr∧w1.heap.size≤wr.heap.size∧(outS (ls.take k)).length≤32768)) (fun vi _=>n - (intOf vi).toNat)
   case atStart=>exact ⟨0,rfl,by omega,Lib.fresh_isBuilder 71 5 w1,H1.out.alloc H1.out.size _,by simp,by simp [outS]⟩
   case round=>
    obtain ⟨k,rfl,hk,HR⟩:=hrel
    obtain ⟨wo,rfl⟩:∃ wo,wo=wr:=⟨_,rfl⟩
    by_cases hkn:k<n
    · have e1:decide ((k:Int)<(n:Int))=true:=by simpa using hkn
      obtain ⟨m,hm⟩:∃ m,ms[k]? = some m:=⟨ms[k]'(by have:=H.out.1;omega),List.getElem?_eq_getElem _⟩
      obtain ⟨i,hi⟩:∃ i,ls[k]? = some i:=⟨ls[k]'(by have:=H.out.2.1;omega),List.getElem?_eq_getElem _⟩
      obtain ⟨g,z,hA,hr⟩:=H.out.2.2.1.resolve_left (by omega)
      subst hA
      have ck:=ck_below HR.out.2.1
      obtain ⟨c0,c1,c2,c3,c4,c5,c6,c7,c8,c9⟩:=hr.cells hm
      have k0:=ck _ _ c0
      have k1:=ck _ _ c1
      have k2:=ck _ _ c2
      have k3:=ck _ _ c3
      have k4:=ck _ _ c4
      have k5:=ck _ _ c5
      have k6:=ck _ _ c6
      have k7:=ck _ _ c7
      have k8:=ck _ _ c8
      have k9:=ck _ _ c9
      have hrd:=H.out.2.2.2.1.get hm hi
      have hnone:=ckAll_ok HC.out i (List.mem_of_getElem? hi)
      have hEo:Env wo:=H.out.2.2.2.2.below HR.out.2.1
      have HW:Hid (∀ o,Calls Tryz.prog 38 #[mla m] (wo.alloc o) (LwQ (wo.alloc o) (lineW i))):=fun o=>(lineWords_any (hrd.ck (fun a v hv=>ck_below ((Below.refl _ wo).alloc (Nat.le_refl _) o) _ _ (ck _ _ hv))) hnone (hEo.alloc o)).1
      have hz:=(lineWords_any hrd hnone H.out.2.2.2.2).2
      have hjz:=jnB_le (lineW i) hz.2
      have hjz:(jnB (lineW i)).size≤1000000000:=by
       have:(lineW i).length*(156000+1)≤5000*(156000+1):=Nat.mul_le_mul_right _ hz.1
       omega
      have HJ:Hid ((lineW i).length≤1000000∧(jnB (lineW i)).size≤1000000000∧outS (ls.take (k+1))=outS (ls.take k)++((jnB (lineW i)).data.toList++[10])∧outS (ls.take (k+1))=outS (ls.take k)++lineB i):=⟨by omega,hjz,outS_take hi,outS_take hi⟩
      clear c0 c1 c2 c3 c4 c5 c6 c7 c8 c9 hm hi hr ck hrd hnone hEo hz hjz
      go_wp2_with fail
      refine (HW.out _).mono ?_
      rintro x w2 ⟨y2,rfl,hrt,hb2⟩
      have H2:Hid (RdT w2 y2 (lineW i)∧Lib.IsBuilder 71 5 w1.heap.size w1.heap.size (Lib.byteCells (outS (ls.take k))) w2∧Below w.heap.size w w2∧w1.heap.size≤w2.heap.size):=⟨hrt,builder_below (builder_below HR.out.1 ((Below.refl _ wo).alloc (Nat.le_refl _) _)) hb2,(HR.out.2.1.alloc HR.out.2.1.size _).trans (hb2.mono (by have:=HR.out.2.1.size;simp;omega)),by have:=hb2.size;have:=HR.out.2.2.1;simp at *;omega⟩
      clear hrt hb2 k0 k1 k2 k3 k4 k5 k6 k7 k8 k9 HW
      go_wp2_with fail
      refine (join_rd w2 y2 (lineW i) H2.out.1 HJ.out.1 (by have:=HJ.out.2.1;omega)).mono ?_
      rintro x w3 ⟨rfl,hb3⟩
      have H3:Hid (Lib.IsBuilder 71 5 w1.heap.size w1.heap.size (Lib.byteCells (outS (ls.take k))) w3∧Below w.heap.size w w3∧w1.heap.size≤w3.heap.size):=⟨builder_below H2.out.2.1 hb3,H2.out.2.2.1.trans (hb3.mono H2.out.2.2.1.size),by have:=hb3.size;have:=H2.out.2.2.2;omega⟩
      clear H2 hb3
      obtain ⟨J,hJ⟩:∃ J,jnB (lineW i)=J:=⟨_,rfl⟩
      rw [hJ] at HJ ⊢
      clear hJ
      go_wp2_with fail
      refine (write_any w1.heap.size w1.heap.size (Lib.byteCells (outS (ls.take k))) J w3 H3.out.1 (by rw [byteCells_len];have:=HR.out.2.2.2;have:=HJ.out.2.1;omega) H3.out.2.2).mono ?_
      rintro x w4 ⟨rfl,hA4,hb4⟩
      have H4:Hid (Lib.BuilderAt 71 5 w1.heap.size w1.heap.size (.pointer (some ⟨w1.heap.size,0,none⟩)) (Lib.byteCells (outS (ls.take k))++Lib.strCells J) w4∧Below w.heap.size w w4∧w1.heap.size≤w4.heap.size):=⟨hA4,H3.out.2.1.trans (hb4.mono H1.out.size),by have:=hb4.size;have:=H3.out.2.2;omega⟩
      clear H3 hA4 hb4
      go_wp2_with fail
      refine (byte_any w1.heap.size w1.heap.size (Lib.byteCells (outS (ls.take k))++Lib.strCells J) 10 w4 (.inr H4.out.1) (by rw [List.length_append,byteCells_len,Lib.strCells_length];have:=HR.out.2.2.2;have:=HJ.out.2.1;omega) H4.out.2.2).mono ?_
      rintro x w5 ⟨rfl,hA5,hb5⟩
      have hbs:(Lib.byteCells (outS (ls.take k))++Lib.strCells J)++[.int .u8 10]=Lib.byteCells (outS (ls.take (k+1))):=by
       rw [HJ.out.2.2.1,byteCells_app,byteCells_app,strCells_bytes,List.append_assoc]
       rfl
      rw [hbs] at hA5
      have H5:Hid (Lib.BuilderAt 71 5 w1.heap.size w1.heap.size (.pointer (some ⟨w1.heap.size,0,none⟩)) (Lib.byteCells (outS (ls.take (k+1)))) w5∧Below w.heap.size w w5∧w1.heap.size≤w5.heap.size):=⟨hA5,H4.out.2.1.trans (hb5.mono H1.out.size),by have:=hb5.size;have:=H4.out.2.2;omega⟩
      clear H4 hA5 hb5 hbs HJ
      go_wp2_with fail
      refine (Tryz.Builder_Len w1.heap.size w1.heap.size _ w5 (.inr H5.out.1)).mono ?_
      rintro x w6 ⟨rfl,rfl⟩
      rw [byteCells_len]
      obtain ⟨L,hL⟩:∃ L,(outS (ls.take (k+1))).length=L:=⟨_,rfl⟩
      have HL:Hid ((outS (ls.take (k+1))).length=L):=hL
      rw [hL]
      clear hL
      by_cases hbig:32768<L
      · have eb:decide ((32768:Int)<(L:Int))=true:=by simp;omega
        have HF:Hid (S=(⟨#[]⟩,2)):=by
         show S=_
         rw [←HS.out,printS,if_pos HC.out,if_pos (by have:=outS_le ls (k+1);have:=HL.out;omega)]
        go_wp2
        go_ret2
        exact ⟨by rw [HF.out];rfl,H5.out.2.1⟩
      · have eb:decide ((32768:Int)<(L:Int))=false:=by simp;omega
        go_wp2
        exact ⟨⟨k+1,by go_num,by omega,.inr H5.out.1,H5.out.2.1,H5.out.2.2,by have:=HL.out;omega⟩,by simp [intOf];omega⟩
    · have e1:decide ((k:Int)<(n:Int))=false:=by simpa using hkn
      have HF:Hid (S=(⟨(outS ls).toArray⟩,0)∧Lib.IsBuilder 71 5 w1.heap.size w1.heap.size (Lib.byteCells (outS ls)) wo∧Below w.heap.size w wo∧w1.heap.size≤wo.heap.size):=by
       obtain ⟨p1,p2,p3,p4⟩:=HR.out
       rw [List.take_of_length_le (by have:=H.out.2.1;omega)] at p1 p4
       exact ⟨by rw [←HS.out,printS,if_pos HC.out,if_neg (by omega)],p1,p2,p3⟩
      clear HR
      go_wp2_with fail
      refine (Tryz.Builder_String_any w1.heap.size w1.heap.size (outS ls) wo HF.out.2.1 HF.out.2.2.2).mono ?_
      rintro x w6 ⟨rfl,hb6⟩
      have H6:Hid (Below w.heap.size w w6):=HF.out.2.2.1.trans (hb6.mono (by have:=H1.out.size;omega))
      clear hb6
      go_wp2
      go_ret2
      exact ⟨by rw [HF.out.1];rfl,H6.out⟩
 · have HC:Hid (S=(⟨#[]⟩,ckAll d ls)):=by
    show S=_
    rw [←HS.out,printS,if_neg hc]
   obtain ⟨E,hEe⟩:∃ E,ckAll d ls=E:=⟨_,rfl⟩
   rw [hEe] at HC HCK hc
   have ec:(E == 0)=false:=by simpa using hc
   clear hEe hc
   go_enter Tryz.func19,Tryz.ntmps19
   go_wp2_with fail
   refine HCK.out.mono ?_
   rintro x w1 ⟨rfl,hb1⟩
   have H1:Hid (Below w.heap.size w w1):=hb1
   clear hb1 HCK
   go_wp2
   go_ret2
   exact ⟨by rw [HC.out];rfl,H1.out⟩
end Go.Proofs
