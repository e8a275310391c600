/-
  wrong 99: why a way can't be gone back, by itself.
-/
import Derived.Test.YtcfcjljapamcoabGreatDoorMpmr
namespace Go.Proofs
open Go.RowKit Go.Shelf
set_option maxRecDepth 100000
attribute [local go_sem] Oper.semAt_some
def straysL:List (Int × Int):=[(1114240,1114367)]
def wroE (r:Rl) (core:List (Int × Int)):Int:=
 if (img r).length=0∨r.cu<(img r).length∨(img r).any (metB straysL)=true then 191 else if 8<(img r).length then 194 else if telB r r.key.length=false then 192 else if r.ante.any (metB core)=true∨r.post.any (metB core)=true then 190 else 0
theorem straysL_up:Up straysL:=⟨by simp [straysL],by simp [straysL]⟩
structure WrC (w W1:World) (r:Rl) (av kv pv rv iv cv:Value) (core:List (Int × Int)):Prop where
 bl:Below w.heap.size w W1
 bx:∀ W,Below W1.heap.size W1 W→∀ i v,(wyv r av kv pv rv iv)[i]? = some v→W.cell? ⟨w.heap.size,i,none⟩=some v
 am:∀ W lv sv s ls,Below W1.heap.size W1 W→Rs W sv s→SR w lv ls→Up s→s.length≤10000000→(∀ x∈ls,okS x=true)→ls.length≤16→Calls Tryz.prog 78 #[lv,sv] W fun e w'=>e = .returned (.bool (ls.any (metB s)))∧Below W.heap.size W w'
 st:∀ W,Below W1.heap.size W1 W→Calls Tryz.prog 79 #[] W fun e w'=>∃ v,e = .returned v∧Rs w' v straysL∧Below W.heap.size W w'
 te:∀ W,Below W1.heap.size W1 W→Calls Tryz.prog 80 #[wyVal r av kv pv rv iv] W fun e w'=>e = .returned (.bool (telB r r.key.length))∧Below W.heap.size W w'
 wc:WyC w r av kv pv rv iv
 co:Rs w cv core∧Up core∧core.length≤10000000
 ok:Ok r
theorem WrC.mk' {w:World} (hT:Tab w) {r:Rl} {av kv pv rv iv cv:Value} {core:List (Int × Int)} (h:WyC w r av kv pv rv iv) (ho:Ok r) (hc:Rs w cv core) (hcu:Up core) (hcl:core.length≤10000000) (W1:World) (hW1:W1=w.alloc (.cells (wyv r av kv pv rv iv).toArray 79)):WrC w W1 r av kv pv rv iv cv core:=by
 have hb:Below w.heap.size w W1:=by rw [hW1];exact (Below.refl _ w).alloc (Nat.le_refl _) _
 have hbk:W1.heap[w.heap.size]? = some (.cells (wyv r av kv pv rv iv).toArray 79 (0,0)):=by rw [hW1];exact World.alloc_heap_new _ _
 have hlt1:w.heap.size<W1.heap.size:=(Array.getElem?_eq_some_iff.1 hbk).1
 have hbw:∀ W,Below W1.heap.size W1 W→Below w.heap.size w W:=fun W hW=>hb.trans (hW.mono hb.size)
 refine ⟨hb,fun W hW i v hv => ?_,fun W lv sv s ls hW hs hl hu hsl hls hll => ?_,fun W hW => ?_,fun W hW => ?_,h,⟨hc,hcu,hcl⟩,ho⟩
 · rw [cell_of ((hW.block _ hlt1).trans hbk)]
   simpa using hv
 · exact anyMeets_any lv sv s ls W hs (hl.below (hbw W hW) (Nat.le_refl _)) hu (fun x hx=>⟨okS_up (hls x hx),by have:=okS_512 (hls x hx);omega⟩) hsl (by omega)
 · exact setStrays_any W (fun j v hv=>cell_below (hT j v hv) (hbw W hW) (Nat.le_refl _))
 · exact tells_any r av kv pv rv iv W (fun j v hv=>cell_below (hT j v hv) (hbw W hW) (Nat.le_refl _)) (h.below (hbw W hW) (Nat.le_refl _)) ho.r16 ho.k8
set_option maxHeartbeats 8000000 in
theorem wrongT_any (r:Rl) (av kv pv rv iv cv:Value) (core:List (Int × Int)) (w:World) (hT:Tab w) (h:WyC w r av kv pv rv iv) (ho:Ok r) (hc:Rs w cv core) (hcu:Up core) (hcl:core.length≤10000000) :
 Calls Tryz.prog 50 #[wyVal r av kv pv rv iv,cv] w fun e w'=>e = .returned (.int .i64 (wroE r core))∧Below w.heap.size w w':=by
 obtain ⟨W1,hW1⟩:∃ W1,W1=w.alloc (.cells (wyv r av kv pv rv iv).toArray 79):=⟨_,rfl⟩
 have H:Hid (WrC w W1 r av kv pv rv iv cv core):=WrC.mk' hT h ho hc hcu hcl W1 hW1
 obtain ⟨aa,an,ac,rfl⟩:=h.rr.a.sl
 obtain ⟨ka,kn,kc,rfl⟩:=h.rr.k.sl
 obtain ⟨pa,pn,pc,rfl⟩:=h.rr.p.sl
 obtain ⟨ra,rn,rc,rfl⟩:=h.rr.r.sl
 obtain ⟨ia,ic,rfl,_,_⟩:=h.im
 obtain ⟨ca,cn,cc,rfl⟩:=hc.sl
 obtain ⟨n,hn⟩:∃ n,(img r).length=n:=⟨_,rfl⟩
 have HN:Hid ((img r).length=n):=hn
 have hn16:(n:Int)≤16:=by have:=ho.r16;simp [img] at hn;omega
 rw [hn] at H ⊢
 obtain ⟨E,hE⟩:∃ E,wroE r core=E:=⟨_,rfl⟩
 have HE:Hid (wroE r core=E):=hE
 rw [hE]
 obtain ⟨cu,hcu'⟩:∃ cu,r.cu=cu:=⟨_,rfl⟩
 have HCU:Hid (r.cu=cu):=hcu'
 have hW2:w.alloc (.cells #[.bool r.bg,.slice aa an ac,.slice ka kn kc,.slice pa pn pc,.bool r.en,.slice ra rn rc,.int .i64 cu,.slice ia n ic] 79)=W1:=by
  rw [hW1,←hcu',←hn]
  rfl
 have q:=H.out.bx W1 (Below.refl _ _)
 have q0:=q 0 _ rfl
 have q1:=q 1 _ rfl
 have q2:=q 2 _ rfl
 have q3:=q 3 _ rfl
 have q4:=q 4 _ rfl
 have q5:=q 5 _ rfl
 have q6:=q 6 _ rfl
 have q7:=q 7 _ rfl
 rw [hcu'] at q6
 clear h ho hc hcu hcl hn hE hT q hcu' hW1
 unfold wyVal
 rw [show r.cu=cu from HCU.out]
 go_enter Tryz.func50,Tryz.ntmps50
 have quit1:n=0∨cu<n→E=191:=fun h=>by
  rw [←HE.out,wroE,if_pos (by rw [HN.out,HCU.out];exact h.imp id Or.inl)]
 have HQ:Hid (n=0∨cu<n→E=191):=quit1
 clear quit1
 by_cases hA:n=0
 · subst hA
   have HF:Hid (E=191):=HQ.out (Or.inl rfl)
   clear HE HCU HQ
   go_upto_region 1 with fail
   go_quiet (fail)
   go_wp2
   go_ret
   exact ⟨by rw [HF.out];rfl,H.out.bl.trans ((show Below W1.heap.size W1 (W1.drewN nq) from ⟨rfl,rfl,rfl,Nat.le_refl _,fun _ _=>rfl⟩).mono H.out.bl.size)⟩
 · have d0:((n:Int) == 0)=false:=by simp;omega
   have n0:¬ ((n:Int)=0):=by omega
   by_cases hB:cu<(n:Int)
   · have d1:decide (cu<(n:Int))=true:=by simpa using hB
     have HF:Hid (E=191):=HQ.out (Or.inr hB)
     clear HE HCU HQ
     go_upto_region 1 with fail
     go_quiet (fail)
     go_wp2
     go_ret
     exact ⟨by rw [HF.out];rfl,H.out.bl.trans ((show Below W1.heap.size W1 (W1.drewN nq) from ⟨rfl,rfl,rfl,Nat.le_refl _,fun _ _=>rfl⟩).mono H.out.bl.size)⟩
   · have d1:decide (cu<(n:Int))=false:=by simpa using hB
     obtain ⟨A,hA1⟩:∃ A,(img r).any (metB straysL)=A:=⟨_,rfl⟩
     obtain ⟨T,hT1⟩:∃ T,telB r r.key.length=T:=⟨_,rfl⟩
     obtain ⟨M1,hM1⟩:∃ M1,r.ante.any (metB core)=M1:=⟨_,rfl⟩
     obtain ⟨M2,hM2⟩:∃ M2,r.post.any (metB core)=M2:=⟨_,rfl⟩
     have HAI:Hid (∀ W sv,Below W1.heap.size W1 W→Rs W sv straysL→Calls Tryz.prog 78 #[.slice ia n ic,sv] W fun e w'=>e = .returned (.bool A)∧Below W.heap.size W w'):=fun W sv hb hs=>by
      have:=H.out.am W _ sv straysL (img r) hb hs H.out.wc.im straysL_up (by simp [straysL]) (img_ok H.out.ok) (by rw [HN.out];omega)
      rw [hA1] at this
      exact this
     have HAA:Hid (∀ W,Below W1.heap.size W1 W→Calls Tryz.prog 78 #[.slice aa an ac,.slice ca cn cc] W fun e w'=>e = .returned (.bool M1)∧Below W.heap.size W w'):=fun W hb=>by
      have:=H.out.am W _ _ core r.ante hb (H.out.co.1.below (H.out.bl.trans (hb.mono H.out.bl.size)) (Nat.le_refl _)) H.out.wc.rr.a H.out.co.2.1 H.out.co.2.2 (List.all_eq_true.1 H.out.ok.aS) (by have:=H.out.ok.a8;omega)
      rw [hM1] at this
      exact this
     have HAP:Hid (∀ W,Below W1.heap.size W1 W→Calls Tryz.prog 78 #[.slice pa pn pc,.slice ca cn cc] W fun e w'=>e = .returned (.bool M2)∧Below W.heap.size W w'):=fun W hb=>by
      have:=H.out.am W _ _ core r.post hb (H.out.co.1.below (H.out.bl.trans (hb.mono H.out.bl.size)) (Nat.le_refl _)) H.out.wc.rr.p H.out.co.2.1 H.out.co.2.2 (List.all_eq_true.1 H.out.ok.pS) (by have:=H.out.ok.p8;omega)
      rw [hM2] at this
      exact this
     have HTE:Hid (∀ W,Below W1.heap.size W1 W→Calls Tryz.prog 80 #[.agg #[.bool r.bg,.slice aa an ac,.slice ka kn kc,.slice pa pn pc,.bool r.en,.slice ra rn rc,.int .i64 cu,.slice ia n ic]] W fun e w'=>e = .returned (.bool T)∧Below W.heap.size W w'):=fun W hb=>by
      have:=H.out.te W hb
      rw [hT1,wyVal,HCU.out] at this
      exact this
     have HEE:Hid (E=if A=true then 191 else if 8<n then 194 else if T=false then 192 else if M1=true∨M2=true then 190 else 0):=by
      show E=_
      rw [←HE.out,wroE,HN.out,HCU.out,hA1,hT1,hM1,hM2]
      by_cases ha:A=true
      · rw [if_pos ha,if_pos (Or.inr (Or.inr ha))]
      · rw [if_neg ha,if_neg (fun h=>h.elim hA fun h=>h.elim hB ha)]
     have HBX:Hid (∀ W,Below W1.heap.size W1 W→W.cell? ⟨w.heap.size,7,none⟩=some (.slice ia n ic)):=fun W hb=>H.out.bx W hb 7 _ rfl
     clear hA1 hT1 hM1 hM2 HE HQ
     go_upto_region 1 with fail
     go_cut [5] (fun s wx=>s = .bool A∧Hid (Below W1.heap.size W1 wx))
     case first=>
      go_region_with (first | (go_at_call 79;go_must (refine (H.out.st _ (by (repeat (first | exact Below.refl _ _ | refine Below.drew ?_)))).mono ?_;rintro e w5 ⟨v5,rfl,hv5,hb5⟩;obtain ⟨sa,sn,sc,rfl⟩:=hv5.sl;have hB5:Hid (Below W1.heap.size W1 w5):=Below.trans (by (repeat (first | exact Below.refl _ _ | refine Below.drew ?_))) (hb5.mono (Nat.le_refl _));have y7:=HBX.out w5 hB5.out)) | (go_at_call 78;go_must (refine (HAI.out _ _ hB5.out hv5).mono ?_;rintro e w6 ⟨rfl,hb6⟩)))
      all_goals
       go_wp2
       go_meet
       exact ⟨rfl,(by (repeat (first | exact Below.trans hB5.out (hb6.mono hB5.out.size) | refine Below.drew ?_)))⟩
     case rest=>
      obtain ⟨hcs,hcw⟩:=hcut
      subst hcs
      cases A with
      | true=>
       have HF:Hid (E=191):=HEE.out
       clear HAI HAA HAP HTE HBX HEE
       go_wp2
       go_ret
       exact ⟨by rw [HF.out];rfl,H.out.bl.trans (hcw.out.mono H.out.bl.size)⟩
      | false=>
       clear HAI
       have HE1:Hid (E=if 8<n then 194 else if T=false then 192 else if M1=true∨M2=true then 190 else 0):=HEE.out
       have y7:=HBX.out wc hcw.out
       clear HEE
       by_cases h8:8<n
       · have h8I:(8:Int)<(n:Int):=by omega
         have d2:decide ((8:Int)<(n:Int))=true:=by simpa using h8I
         have HF:Hid (E=194):=by
          show E=194
          rw [HE1.out,if_pos h8]
         clear HAA HAP HTE HBX HE1
         go_wp2
         go_ret
         exact ⟨by rw [HF.out];rfl,H.out.bl.trans (hcw.out.mono H.out.bl.size)⟩
       · have h8I:¬ (8:Int)<(n:Int):=by omega
         have d2:decide ((8:Int)<(n:Int))=false:=by simpa using h8I
         have HE2:Hid (E=if T=false then 192 else if M1=true∨M2=true then 190 else 0):=by
          show E=_
          rw [HE1.out,if_neg h8]
         have q:=H.out.bx wc hcw.out
         have z0:=q 0 _ rfl
         have z1:=q 1 _ rfl
         have z2:=q 2 _ rfl
         have z3:=q 3 _ rfl
         have z4:=q 4 _ rfl
         have z5:=q 5 _ rfl
         have z6:=q 6 _ rfl
         rw [HCU.out] at z6
         clear q HE1 HBX
         go_wp2_with fail
         refine (HTE.out wc hcw.out).mono ?_
         rintro e w2 ⟨rfl,hb2⟩
         have hc2:Hid (Below W1.heap.size W1 w2):=hcw.out.trans (hb2.mono hcw.out.size)
         clear hb2 z0 z1 z2 z3 z4 z5 z6 y7 hcw HTE
         cases T with
         | false=>
          have HF:Hid (E=192):=HE2.out
          clear HAA HAP HE2
          go_wp2
          go_ret
          exact ⟨by rw [HF.out];rfl,H.out.bl.trans (hc2.out.mono H.out.bl.size)⟩
         | true=>
          have HE3:Hid (E=if M1=true∨M2=true then 190 else 0):=HE2.out
          have z1:=H.out.bx w2 hc2.out 1 _ rfl
          clear HE2
          go_wp2_with fail
          refine (HAA.out w2 hc2.out).mono ?_
          rintro e w3 ⟨rfl,hb3⟩
          have hc3:Hid (Below W1.heap.size W1 w3):=hc2.out.trans (hb3.mono hc2.out.size)
          clear hb3 z1 hc2 HAA
          cases M1 with
          | true=>
           have HF:Hid (E=190):=by
            show E=190
            rw [HE3.out,if_pos (Or.inl rfl)]
           clear HAP HE3
           go_wp2
           go_ret
           exact ⟨by rw [HF.out];rfl,H.out.bl.trans (hc3.out.mono H.out.bl.size)⟩
          | false=>
           have z3:=H.out.bx w3 hc3.out 3 _ rfl
           go_wp2_with fail
           refine (HAP.out w3 hc3.out).mono ?_
           rintro e w4 ⟨rfl,hb4⟩
           have hc4:Hid (Below W1.heap.size W1 w4):=hc3.out.trans (hb4.mono hc3.out.size)
           clear hb4 z3 hc3 HAP
           cases M2 with
           | true=>
            have HF:Hid (E=190):=by
             show E=190
             rw [HE3.out,if_pos (Or.inr rfl)]
            clear HE3
            go_wp2
            go_ret
            exact ⟨by rw [HF.out];rfl,H.out.bl.trans (hc4.out.mono H.out.bl.size)⟩
           | false=>
            have HF:Hid (E=0):=by
             show E=0
             rw [HE3.out,if_neg (by simp)]
            clear HE3
            go_wp2
            go_ret
            exact ⟨by rw [HF.out];rfl,H.out.bl.trans (hc4.out.mono H.out.bl.size)⟩
end Go.Proofs
