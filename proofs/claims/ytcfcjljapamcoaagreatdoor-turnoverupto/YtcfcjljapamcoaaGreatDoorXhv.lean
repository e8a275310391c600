/-
  beside 75: what is wrong with two rules beside one another: the document's.
-/
import Derived.Test.YtcfcjljapamcoaaGreatDoorXfv
import Derived.Test.YtcfcjljapamcoaaGreatDoorXgv
import Derived.Test.YtcfcjljapamcoaaGreatDoorMpkv
namespace Go.Proofs
open Go.RowKit Go.Shelf
set_option maxRecDepth 100000
attribute [local go_sem] Oper.semAt_some
theorem ok_sz' {r:Rl} (ho:Ok r):Sz ⟨false,false,0,[],r.key,[],r.res⟩:=by
 have h:=ok_sz ho
 exact ⟨by simp,by simp,h.nk,h.sk,by simp,by simp,h.nr,h.sr⟩
set_option maxHeartbeats 16000000 in
theorem beside_any (a b:Rl) (aa ak ap ar ba bk bp br:Value) (w:World) (ha:RR w aa ak ap ar a) (hb:RR w ba bk bp br b) (hoa:Ok a) (hob:Ok b) :
 Calls Tryz.prog 75 #[.agg #[.bool a.bg,aa,ak,ap,.bool a.en,ar,.int .i64 a.cu],.agg #[.bool b.bg,ba,bk,bp,.bool b.en,br,.int .i64 b.cu]] w fun e w'=>e = .returned (.int .i64 (clsE a b))∧Below w.heap.size w w':=by
 obtain ⟨E,hE⟩:∃ E,clsE a b=E:=⟨_,rfl⟩
 obtain ⟨W1,hW1⟩:∃ W1,(w.alloc (.cells #[.bool a.bg,aa,ak,ap,.bool a.en,ar,.int .i64 a.cu] 60)).alloc (.cells #[.bool b.bg,ba,bk,bp,.bool b.en,br,.int .i64 b.cu] 60)=W1:=⟨_,rfl⟩
 have hb1:Below w.heap.size w W1:=by rw [←hW1];exact ((Below.refl _ w).alloc (Nat.le_refl _) _).alloc (by rw [World.size_alloc];omega) _
 have hk1:W1.heap[w.heap.size]? = some (.cells #[.bool a.bg,aa,ak,ap,.bool a.en,ar,.int .i64 a.cu] 60 (0,0)):=by rw [←hW1];exact al_old _ _ (al_new _ _ rfl)
 have hk2:W1.heap[w.heap.size+1]? = some (.cells #[.bool b.bg,ba,bk,bp,.bool b.en,br,.int .i64 b.cu] 60 (0,0)):=by rw [←hW1];exact al_new _ _ (by simp only [World.size_alloc])
 have HBX:Hid (∀ W,Below W1.heap.size W1 W→W.heap[w.heap.size]? = some (.cells #[.bool a.bg,aa,ak,ap,.bool a.en,ar,.int .i64 a.cu] 60 (0,0))∧W.heap[w.heap.size+1]? = some (.cells #[.bool b.bg,ba,bk,bp,.bool b.en,br,.int .i64 b.cu] 60 (0,0))):=fun W hb=>⟨(hb.block _ (blk_lt hk1)).trans hk1,(hb.block _ (blk_lt hk2)).trans hk2⟩
 have H:Hid (Below w.heap.size w W1∧RR w aa ak ap ar a∧RR w ba bk bp br b∧Ok a∧Ok b):=⟨hb1,ha,hb,hoa,hob⟩
 have HIA:Hid (Calls Tryz.prog 46 #[.agg #[.bool a.bg,aa,ak,ap,.bool a.en,ar,.int .i64 a.cu]] W1 fun e w'=>∃ y1 y2 y3,e = .returned (.slice y1 y2 y3)∧SR w' (.slice y1 y2 y3) (img a)∧Below W1.heap.size W1 w'):=by
  refine (rimageR_any a _ _ _ _ w W1 ha hb1 hoa).mono ?_
  rintro e w' ⟨y1,y2,y3,rfl,h1,h2⟩
  exact ⟨y1,y2,y3,rfl,h1.now,h2⟩
 have HIB:Hid (∀ W,Below w.heap.size w W→Calls Tryz.prog 46 #[.agg #[.bool b.bg,ba,bk,bp,.bool b.en,br,.int .i64 b.cu]] W fun e w'=>∃ y1 y2 y3,e = .returned (.slice y1 y2 y3)∧SR w' (.slice y1 y2 y3) (img b)∧Below W.heap.size W w'):=fun W hW=>by
  refine (rimageR_any b _ _ _ _ w W hb hW hob).mono ?_
  rintro e w' ⟨y1,y2,y3,rfl,h1,h2⟩
  exact ⟨y1,y2,y3,rfl,h1.now,h2⟩
 have HSM:Hid (∀ W,Below w.heap.size w W→Calls Tryz.prog 107 #[.agg #[.bool false,.slice none 0 0,ak,.slice none 0 0,.bool false,ar,.int .i64 0],.agg #[.bool false,.slice none 0 0,bk,.slice none 0 0,.bool false,br,.int .i64 0]] W fun e w'=>e = .returned (.bool (decide (a.key=b.key∧a.res=b.res)))∧Grown W w'):=fun W hW=>by
  have:=rsame_any _ _ _ _ _ _ _ _ _ _ W (ha.below hW (Nat.le_refl _)).bare (hb.below hW (Nat.le_refl _)).bare (ok_sz' hoa)
  rw [bare_same] at this
  exact this
 obtain ⟨D,hD⟩:∃ D,decide (a.key=b.key∧a.res=b.res)=D:=⟨_,rfl⟩
 have HE:Hid (E=if mtB (img a) (img b) (min (img a).length (img b).length)=false then 0 else if (img a).length≠(img b).length then 193 else if D=false then 192 else 0):=by
  show E=_
  rw [←hE,clsE,hD]
 rw [hE]
 rw [hD] at HSM
 obtain ⟨a1,a2,a3,rfl⟩:=ha.a.sl
 obtain ⟨a4,a5,a6,rfl⟩:=ha.k.sl
 obtain ⟨a7,a8,a9,rfl⟩:=ha.p.sl
 obtain ⟨c1,c2,c3,rfl⟩:=ha.r.sl
 obtain ⟨b1,b2,b3,rfl⟩:=hb.a.sl
 obtain ⟨b4,b5,b6,rfl⟩:=hb.k.sl
 obtain ⟨b7,b8,b9,rfl⟩:=hb.p.sl
 obtain ⟨d1,d2,d3,rfl⟩:=hb.r.sl
 have x0:W1.cell? ⟨w.heap.size,0,none⟩=some (.bool a.bg):=by rw [cell_of hk1];rfl
 have x1:W1.cell? ⟨w.heap.size,1,none⟩=some (.slice a1 a2 a3):=by rw [cell_of hk1];rfl
 have x2:W1.cell? ⟨w.heap.size,2,none⟩=some (.slice a4 a5 a6):=by rw [cell_of hk1];rfl
 have x3:W1.cell? ⟨w.heap.size,3,none⟩=some (.slice a7 a8 a9):=by rw [cell_of hk1];rfl
 have x4:W1.cell? ⟨w.heap.size,4,none⟩=some (.bool a.en):=by rw [cell_of hk1];rfl
 have x5:W1.cell? ⟨w.heap.size,5,none⟩=some (.slice c1 c2 c3):=by rw [cell_of hk1];rfl
 have x6:W1.cell? ⟨w.heap.size,6,none⟩=some (.int .i64 a.cu):=by rw [cell_of hk1];rfl
 clear ha hb hoa hob hE hD hb1 hk1 hk2
 go_enter Tryz.func75,Tryz.ntmps75
 go_wp2_with fail
 refine HIA.out.mono ?_
 rintro e w2 ⟨ia,im,ic,rfl,hsr,hb2⟩
 have hil:=hsr.lens
 have H2:Hid (SR w2 (.slice ia im ic) (img a)∧Below W1.heap.size W1 w2∧Below w.heap.size w w2∧im=(img a).length):=⟨hsr,hb2,H.out.1.trans (hb2.mono H.out.1.size),hil.1⟩
 have hic:=hil.2
 have him:im≤16:=by rw [hil.1,img_len];exact H.out.2.2.2.1.r16
 have hbk:=(HBX.out w2 H2.out.2.1).2
 have y0:w2.cell? ⟨w.heap.size+1,0,none⟩=some (.bool b.bg):=by rw [cell_of hbk];rfl
 have y1:w2.cell? ⟨w.heap.size+1,1,none⟩=some (.slice b1 b2 b3):=by rw [cell_of hbk];rfl
 have y2:w2.cell? ⟨w.heap.size+1,2,none⟩=some (.slice b4 b5 b6):=by rw [cell_of hbk];rfl
 have y3:w2.cell? ⟨w.heap.size+1,3,none⟩=some (.slice b7 b8 b9):=by rw [cell_of hbk];rfl
 have y4:w2.cell? ⟨w.heap.size+1,4,none⟩=some (.bool b.en):=by rw [cell_of hbk];rfl
 have y5:w2.cell? ⟨w.heap.size+1,5,none⟩=some (.slice d1 d2 d3):=by rw [cell_of hbk];rfl
 have y6:w2.cell? ⟨w.heap.size+1,6,none⟩=some (.int .i64 b.cu):=by rw [cell_of hbk];rfl
 clear hsr hb2 hil hbk HIA x0 x1 x2 x3 x4 x5 x6 hW1
 go_wp2_with fail
 refine (HIB.out w2 H2.out.2.2.1).mono ?_
 rintro e w3 ⟨ja,jm,jc,rfl,hsr,hb3⟩
 have hil:=hsr.lens
 have hjc:=hil.2
 have hjm:jm≤16:=by rw [hil.1,img_len];exact H.out.2.2.2.2.r16
 have H3:Hid (SR w3 (.slice ia im ic) (img a)∧SR w3 (.slice ja jm jc) (img b)∧Below W1.heap.size W1 w3∧Below w.heap.size w w3∧im=(img a).length∧jm=(img b).length):=⟨H2.out.1.below hb3 (Nat.le_refl _),hsr,H2.out.2.1.trans (hb3.mono H2.out.2.1.size),H2.out.2.2.1.trans (hb3.mono H2.out.2.2.1.size),H2.out.2.2.2,hil.1⟩
 have HA0:Hid (Below w3.heap.size w3 w3∧mtB (img a) (img b) 0=true):=⟨Below.refl _ _,rfl⟩
 clear hsr hb3 hil HIB y0 y1 y2 y3 y4 y5 y6 H2
 go_wp2
 go_loopw [7] (fun vi wr=>∃ k:Nat,vi = .int .i64 k∧k≤im∧k≤jm∧Hid (Below w3.heap.size w3 wr∧mtB (img a) (img b) k=true)) (fun vi _=>im - (intOf vi).toNat)
 case atStart=>exact ⟨0,rfl,by omega,by omega,HA0.out⟩
 case round=>
  obtain ⟨k,rfl,hk,hkj,HB⟩:=hrel
  obtain ⟨wa,hwa⟩:∃ x,x=wr:=⟨_,rfl⟩
  subst hwa
  clear HA0
  have HBW:Hid (Below W1.heap.size W1 wa∧Below w.heap.size w wa):=⟨H3.out.2.2.1.trans (HB.out.1.mono H3.out.2.2.1.size),H3.out.2.2.2.1.trans (HB.out.1.mono H3.out.2.2.2.1.size)⟩
  have hpos:(0:Int)≤(k:Int):=by omega
  by_cases hlt:k<im∧k<jm
  · obtain ⟨hlt1,hlt2⟩:=hlt
    have hlt1':(k:Int)<(im:Int):=by omega
    have hlt2':(k:Int)<(jm:Int):=by omega
    have hka:k<(img a).length:=by rw [←H3.out.2.2.2.2.1];exact hlt1
    have hkb:k<(img b).length:=by rw [←H3.out.2.2.2.2.2];exact hlt2
    obtain ⟨g5,o5,u1,u2,u3,rfl,hcl,hRs⟩:=H3.out.1.at hka
    obtain ⟨g6,o6,v1,v2,v3,rfl,hcm,hRt⟩:=H3.out.2.1.at hkb
    have cl:=cell_below hcl HB.out.1 (Nat.le_refl _)
    have cm:=cell_below hcm HB.out.1 (Nat.le_refl _)
    have hoka:=img_ok H.out.2.2.2.1 _ (List.getElem_mem hka)
    have hokb:=img_ok H.out.2.2.2.2 _ (List.getElem_mem hkb)
    obtain ⟨M,hM⟩:∃ M,metB ((img a)[k]'hka) ((img b)[k]'hkb)=M:=⟨_,rfl⟩
    have HM:Hid (∀ W,Below wa.heap.size wa W→Calls Tryz.prog 104 #[.slice u1 u2 u3,.slice v1 v2 v3] W fun e w'=>e = .returned (.bool M)∧Below W.heap.size W w'):=fun W hb=>by
     rw [←hM]
     have hb':=HB.out.1.trans (hb.mono HB.out.1.size)
     exact rmeetT_any W _ _ _ _ (hRs.below hb' (Nat.le_refl _)) (hRt.below hb' (Nat.le_refl _)) (okS_up hoka) (okS_up hokb) (by have:=okS_512 hoka;omega) (by have:=okS_512 hokb;omega)
    have HMS:Hid (mtB (img a) (img b) (k+1)=M):=by
     show _=_
     rw [mtB_succ hka hkb,HB.out.2,hM]
     rfl
    have hkl:Hid (k<(img a).length∧k<(img b).length):=⟨hka,hkb⟩
    clear hcl hcm hRs hRt hoka hokb hM hka hkb
    go_upto_region 6 with fail
    go_cut [34] (fun s wx=>s = .bool (!M)∧Hid (Below wa.heap.size wa wx))
    case first=>
     go_region_law (go_simp;go_at_call 104;go_must (refine (HM.out _ (by first | exact Below.refl _ _ | exact (Below.refl _ wa).drew)).mono ?_;rintro e w6 ⟨rfl,hb6⟩;have H6:Hid (Below wa.heap.size wa w6):=(by first | exact hb6 | exact ((Below.refl _ wa).drew).trans hb6);clear hb6))
     all_goals
      go_wp2
      go_meet
      exact ⟨rfl,H6.out⟩
    case rest=>
     obtain ⟨hcs,hcw⟩:=hcut
     subst hcs
     have HB6:Hid (Below w3.heap.size w3 wc∧Below w.heap.size w wc):=⟨HB.out.1.trans (hcw.out.mono HB.out.1.size),HBW.out.2.trans (hcw.out.mono HBW.out.2.size)⟩
     clear hcw HM cl cm
     cases M with
     | false=>
      have HX:Hid (E=0):=by
       show E=0
       have:mtB (img a) (img b) (min (img a).length (img b).length)=false:=by
        unfold mtB
        rw [List.all_eq_false]
        have h1:=HMS.out
        unfold mtB at h1
        rw [List.all_eq_false] at h1
        obtain ⟨i,hi,h2⟩:=h1
        exact ⟨i,List.mem_range.2 (by have:=List.mem_range.1 hi;have:=hkl.out;omega),h2⟩
       rw [HE.out,if_pos this]
      clear HB HBW
      go_wp2
      go_ret
      exact ⟨by have he:=HX.out;subst he;rfl,HB6.out.2⟩
     | true=>
      have HF:Hid (Below w3.heap.size w3 wc∧mtB (img a) (img b) (k+1)=true):=⟨HB6.out.1,HMS.out⟩
      clear HB HMS HBW
      go_wp2
      exact ⟨⟨k+1,by go_num,by omega,by omega,HF⟩,by simp [intOf];omega⟩
  · have HE1:Hid (E=if (im:Int)≠(jm:Int) then 193 else if D=false then 192 else 0):=by
     show E=_
     have hmn:k=min (img a).length (img b).length:=by have h1:=H3.out.2.2.2.2.1;have h2:=H3.out.2.2.2.2.2;omega
     rw [HE.out,←hmn,HB.out.2,if_neg (by simp),←H3.out.2.2.2.2.1,←H3.out.2.2.2.2.2]
     have e:((im:Int)≠(jm:Int))↔(im≠jm):=by omega
     simp only [e]
    have hbb:=HBX.out wa HBW.out.1
    have x2:wa.cell? ⟨w.heap.size,2,none⟩=some (.slice a4 a5 a6):=by rw [cell_of hbb.1];rfl
    have x5:wa.cell? ⟨w.heap.size,5,none⟩=some (.slice c1 c2 c3):=by rw [cell_of hbb.1];rfl
    have y2:wa.cell? ⟨w.heap.size+1,2,none⟩=some (.slice b4 b5 b6):=by rw [cell_of hbb.2];rfl
    have y5:wa.cell? ⟨w.heap.size+1,5,none⟩=some (.slice d1 d2 d3):=by rw [cell_of hbb.2];rfl
    have y2':=fun ob=>cell_up y2 ob
    have y5':=fun ob=>cell_up y5 ob
    clear hbb HB HE
    by_cases hij:im=jm
    · have hijd:((im:Int) != (jm:Int))=false:=by simp [hij]
      have HE2:Hid (E=if D=false then 192 else 0):=by
       show E=_
       rw [HE1.out,if_neg (by simp [hij])]
      clear HE1
      have HEND:Hid (∀ W,Below wa.heap.size wa W→Calls Tryz.prog 107 #[.agg #[.bool false,.slice none 0 0,.slice a4 a5 a6,.slice none 0 0,.bool false,.slice c1 c2 c3,.int .i64 0],.agg #[.bool false,.slice none 0 0,.slice b4 b5 b6,.slice none 0 0,.bool false,.slice d1 d2 d3,.int .i64 0]] W fun e w'=>e = .returned (.bool D)∧Below w.heap.size w w'):=fun W hb=>by
       have hbw:=HBW.out.2.trans (hb.mono HBW.out.2.size)
       exact (HSM.out W hbw).mono fun e w' h=>⟨h.1,hbw.trans (h.2.below.mono hbw.size)⟩
      by_cases hki:k<im
      · exfalso;exact hlt ⟨hki,by omega⟩
      · have hki':¬ (k:Int)<(im:Int):=by omega
        clear hlt hij
        go_wp2_with fail
        refine (HEND.out _ ((Below.refl _ wa).alloc (Nat.le_refl _) _)).mono ?_
        rintro e w6 ⟨rfl,hb6⟩
        have H6:Hid (Below w.heap.size w w6):=hb6
        clear hb6 HEND x2 x5 y2 y5 y2' y5'
        cases D with
        | true=>
         have HX:Hid (E=0):=by show E=0;rw [HE2.out,if_neg (by simp)]
         go_wp2
         go_ret
         exact ⟨by have he:=HX.out;subst he;rfl,H6.out⟩
        | false=>
         have HX:Hid (E=192):=by show E=192;rw [HE2.out,if_pos rfl]
         go_wp2
         go_ret
         exact ⟨by have he:=HX.out;subst he;rfl,H6.out⟩
    · have hijd:((im:Int) != (jm:Int))=true:=by simp;omega
      have HX:Hid (E=193):=by
       show E=193
       rw [HE1.out,if_pos (by omega)]
      clear HE1 y2' y5'
      by_cases hki:k<im
      · have hki':(k:Int)<(im:Int):=by omega
        have hkj':¬ (k:Int)<(jm:Int):=by omega
        clear hlt hij
        go_wp2
        go_ret
        exact ⟨by have he:=HX.out;subst he;rfl,HBW.out.2⟩
      · have hki':¬ (k:Int)<(im:Int):=by omega
        clear hlt hij
        go_wp2
        go_ret
        exact ⟨by have he:=HX.out;subst he;rfl,HBW.out.2⟩
end Go.Proofs
