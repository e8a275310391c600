/-
  Several texts in one (S8z Xy9z).
-/
import Derived.Test.YtcfcjljapamcoaaGreatDoorMpxz
import Derived.Test.YtcfcjljapamcoaaGreatDoorMpyz
import Derived.Test.YtcfcjljapamcoaaGreatDoorMprx
import Derived.Test.YtcfcjljapamcoaaGreatDoorMgax
namespace Go.Proofs
open Go.RowKit Go.Shelf
set_option maxRecDepth 100000
attribute [local go_sem] Oper.semAt_some
theorem allU_seg {x:Int × Int} (h1:x.1≤x.2) (h:∀ u,x.1≤u→u≤x.2→inL allU u=true):Whole x:=by
 have seg:∀ u,inL allU u=true→(0≤u∧u≤55295)∨(57344≤u∧u≤1114111)∨(1114240≤u∧u≤1114367):=fun u hu=>by
  simp [inL,allU,inR] at hu
  omega
 have a:=seg _ (h x.1 (Int.le_refl _) h1)
 have b:=seg _ (h x.2 h1 (Int.le_refl _))
 have g1:¬ (x.1≤55296∧55296≤x.2):=fun ⟨e1,e2⟩=>by
  have:=seg _ (h 55296 e1 e2)
  omega
 have g2:¬ (x.1≤1114112∧1114112≤x.2):=fun ⟨e1,e2⟩=>by
  have:=seg _ (h 1114112 e1 e2)
  omega
 unfold Whole
 omega
theorem over_valid {rs:List Rl} {l:List (Int × Int)} {n:Int} (h:OvR rs l n 0):validB l=true∧(∀ u,inL l u=true↔ovU rs u):=by
 rcases h with ⟨h1,_⟩ | ⟨_,t,h1,h2,⟨_,_,_,h3⟩ | ⟨h3,rfl,_⟩⟩
 · exact absurd rfl h1
 · cases h3
 · refine ⟨(validB_iff l).2 ⟨h3,fun x hx => ?_,?_⟩,h2⟩
   · refine allU_seg (h1.2 x hx) fun u e1 e2 => ?_
     exact ((h2 u).1 (List.any_eq_true.2 ⟨x,hx,(inR_iff x u).2 ⟨e1,e2⟩⟩)).1
   · exact h1.1.imp fun h=>by omega
set_option maxHeartbeats 16000000 in
theorem law5_any (v:Value) (rs:List Rl) (s:ByteArray) (w:World) (hT:Tab w) (h:PsR w v rs):Calls Tryz.prog 5 #[.agg #[v],.string s] w fun e w'=>e = .returned (.bool true)∧Below w.heap.size w w':=by
 obtain ⟨va,vn,vc,rfl⟩:IsSl v:=by
  obtain ⟨a,c,e,_⟩:=h
  exact ⟨a,_,c,e⟩
 obtain ⟨W1,hW1⟩:∃ W1,w.alloc (.cells #[.slice va vn vc] 24)=W1:=⟨_,rfl⟩
 have hb1:Below w.heap.size w W1:=by rw [←hW1];exact (Below.refl _ w).alloc (Nat.le_refl _) _
 have hk1:W1.heap[w.heap.size]? = some (.cells #[.slice va vn vc] 24 (0,0)):=by rw [←hW1];exact World.alloc_heap_new _ _
 have x0:W1.cell? ⟨w.heap.size,0,none⟩=some (.slice va vn vc):=by rw [cell_of hk1];rfl
 have H:Hid (Below w.heap.size w W1∧(∀ W,Below w.heap.size w W→PsR W (.slice va vn vc) rs∧Tab W)∧(∀ W,Below W1.heap.size W1 W→W.cell? ⟨w.heap.size,0,none⟩=some (.slice va vn vc)∧Below w.heap.size w W)):=⟨hb1,fun W hb=>⟨h.below hb (Nat.le_refl _),fun j v hv=>cell_below (hT j v hv) hb (Nat.le_refl _)⟩,fun W hb=>⟨cell_below x0 hb (Nat.le_refl _),hb1.trans (hb.mono hb1.size)⟩⟩
 have HB9:Hid (Calls Tryz.prog 9 #[.agg #[.slice va vn vc]] W1 fun e w'=>IsB e∧Below W1.heap.size W1 w'):=beyond9_all _ rs W1 (h.below hb1 (Nat.le_refl _))
 clear h hT hb1 hk1
 go_enter Tryz.func5,Tryz.ntmps5
 go_wp2_with fail
 refine HB9.out.mono ?_
 rintro e w1 ⟨⟨b,rfl⟩,hb⟩
 have HB1:Hid (Below W1.heap.size W1 w1):=hb
 clear hb HB9 x0 hW1
 cases b with
 | true=>
  have HF:Hid (Below w.heap.size w w1):=(H.out.2.2 w1 HB1.out).2
  go_wp2
  go_ret
  exact ⟨rfl,HF.out⟩
 | false=>
  go_wp2_with fail
  refine (shown19_any w1 (H.out.2.1 w1 (H.out.2.2 w1 HB1.out).2).2).mono ?_
  rintro e w2 ⟨rfl,hb2⟩
  have HB2:Hid (Below W1.heap.size W1 w2):=HB1.out.trans (hb2.mono HB1.out.size)
  have h2:=H.out.2.2 w2 HB2.out
  have x2:=h2.1
  have HC:Hid (Calls Tryz.prog 12 #[.agg #[.slice va vn vc]] w2 (TrnQ w2 rs)):=turn12_any _ rs w2 (H.out.2.1 w2 h2.2).2 (H.out.2.1 w2 h2.2).1
  clear hb2 h2 HB1
  go_wp2_with fail
  refine HC.out.mono ?_
  rintro e w3 ⟨y1,y2,y3,n,c,rfl,htr,-,hps,hb3⟩
  have HTR:Hid (TrnP rs n c):=htr
  obtain ⟨W4,hW4⟩:∃ W4,w3.alloc (.cells #[.slice y1 y2 y3] 24)=W4:=⟨_,rfl⟩
  have hb4:Below w3.heap.size w3 W4:=by rw [←hW4];exact (Below.refl _ w3).alloc (Nat.le_refl _) _
  have hk4:W4.heap[w3.heap.size]? = some (.cells #[.slice y1 y2 y3] 24 (0,0)):=by rw [←hW4];exact World.alloc_heap_new _ _
  have y4:W4.cell? ⟨w3.heap.size,0,none⟩=some (.slice y1 y2 y3):=by rw [cell_of hk4];rfl
  have f4:W4.frozen? ⟨w3.heap.size,0,none⟩=false:=free_of hk4
  have HB4:Hid (Below W1.heap.size W1 W4):=HB2.out.trans ((hb3.trans (hb4.mono hb3.size)).mono HB2.out.size)
  have h4:=H.out.2.2 W4 HB4.out
  have x4:=h4.1
  have HPS:Hid (c=0→∀ W,Below W4.heap.size W4 W→PsR W (.slice y1 y2 y3) (rs.map turnR)):=fun hc W hb=>((hps hc).now.below hb4 (Nat.le_refl _)).below hb (Nat.le_refl _)
  have HY:Hid (∀ W,Below W4.heap.size W4 W→W.cell? ⟨w3.heap.size,0,none⟩=some (.slice y1 y2 y3)):=fun W hb=>cell_below y4 hb (Nat.le_refl _)
  have HO4:Hid (Calls Tryz.prog 18 #[.agg #[.slice va vn vc]] W4 (OveQ W4 rs)):=over_any _ rs W4 (H.out.2.1 W4 h4.2).2 (H.out.2.1 W4 h4.2).1
  clear hps hb3 hb4 hk4 htr x2 HC h4 f4
  go_wp2_with fail
  clear hW4
  refine HO4.out.mono ?_
  rintro e w5 ⟨ov,on,oc,l,rfl,hO5,hb5,hov⟩
  have hrs:=hO5.rs
  obtain ⟨la,ln,lc,rfl⟩:=hrs.sl
  have HB5:Hid (Below W4.heap.size W4 w5∧Below W1.heap.size W1 w5):=⟨hb5,HB4.out.trans (hb5.mono HB4.out.size)⟩
  have HRS:Hid (∀ W,Below w5.heap.size w5 W→Rs W (.slice la ln lc) l):=fun W hb=>hrs.below hb (Nat.le_refl _)
  have HOV:Hid (OvR rs l on oc):=hov
  have h5:=H.out.2.2 w5 HB5.out.2
  have HF5:Hid (Below w.heap.size w w5):=h5.2
  have y5:=HY.out w5 hb5
  clear hO5 hb5 hov hrs HO4 h5 y4 x4
  by_cases hc:c=0
  · subst hc
    by_cases hoc:oc=0
    · subst hoc
      by_cases hs:s.size≤1000
      · have hsI:¬ (1000:Int)<(s.size:Int):=by omega
        obtain ⟨rfl,hchk,hOK,h256⟩:=HTR.out.bk
        obtain ⟨hval,hin⟩:=over_valid HOV.out
        have HX:Hid (Bck rs∧(chkW rs).2=0∧chkW (rs.map turnR)=(0,0)∧s.size≤1000∧(∀ u,inL l u=true↔ovU rs u)):=⟨HTR.out.bck,hchk,turned_may hOK h256,hs,hin⟩
        have HM:Hid (Calls Tryz.prog 22 #[.agg #[.slice y1 y2 y3]] w5 fun e w'=>e = .returned (.tuple #[.int .i64 0,.int .i64 0])∧Below w5.heap.size w5 w'):=by
         have:=rchkA _ (rs.map turnR) w5 ((HPS.out (by first | exact rfl | trivial)) w5 HB5.out.1)
         rw [turned_may hOK h256] at this
         exact this
        have HV:Hid (∀ W,Below w5.heap.size w5 W→Calls Tryz.prog 23 #[.slice la ln lc] W fun e w'=>e = .returned (.bool true)∧Grown W w'):=fun W hb=>by
         have:=rvalid_any _ l W (HRS.out W hb)
         rw [hval] at this
         exact this
        clear hchk hOK h256 hval hin hs
        go_wp2_with fail
        refine HM.out.mono ?_
        rintro e w6 ⟨rfl,hb6⟩
        have HB6:Hid (Below w5.heap.size w5 w6):=hb6
        clear hb6 HM y5
        go_wp2_with fail
        refine (HV.out w6 HB6.out).mono ?_
        rintro e w7 ⟨rfl,hg7⟩
        have HB7:Hid (Below w5.heap.size w5 w7):=HB6.out.trans (hg7.below.mono HB6.out.size)
        clear hg7 HB6
        go_wp2_with fail
        refine (rcut_any s w7 (by have:=HX.out.2.2.2.1;omega)).mono ?_
        rintro e w8 ⟨uv,rfl,⟨ua,uc,rfl,hucp,hur⟩,hb8⟩
        obtain ⟨un,hun⟩:∃ un,(intsU (units s)).length=un:=⟨_,rfl⟩
        have HB8:Hid (Below w5.heap.size w5 w8):=HB7.out.trans (hb8.mono HB7.out.size)
        have HU:Hid ((intsU (units s)).length=un∧(intsU (units s)=[]∨∃ g o,ua=some ⟨g,o,none⟩∧IRd w8 g o (intsU (units s)))):=⟨hun,hur⟩
        have hun9:un≤16384:=by
         have h1:=units_len s
         rw [intsU_length] at hun
         have:=HX.out.2.2.2.1
         omega
        rw [hun]
        clear hun hur hb8 hucp HB7
        go_wp2
        go_loopw [14] (fun vi wr=>∃ k:Nat,vi = .int .i64 k∧k≤un∧Hid (Below w8.heap.size w8 wr∧((intsU (units s)).take k).all (hasB l)=true)) (fun vi _=>un - (intOf vi).toNat)
        case atStart=>exact ⟨0,rfl,by omega,Below.refl _ _,rfl⟩
        case round=>
         obtain ⟨k,rfl,hk,HB⟩:=hrel
         obtain ⟨wo,hwo⟩:∃ x,x=wr:=⟨_,rfl⟩
         subst hwo
         have hpos:(0:Int)≤(k:Int):=by omega
         have HBO:Hid (Below w5.heap.size w5 wo∧Below W4.heap.size W4 wo∧Below W1.heap.size W1 wo):=by
          have h1:=HB8.out.trans (HB.out.1.mono HB8.out.size)
          exact ⟨h1,HB5.out.1.trans (h1.mono HB5.out.1.size),HB5.out.2.trans (h1.mono HB5.out.2.size)⟩
         by_cases hlt:k<un
         · have hlt':(k:Int)<(un:Int):=by omega
           have hkl:k<(intsU (units s)).length:=by rw [HU.out.1];exact hlt
           obtain ⟨g,o,rfl,hr⟩:=HU.out.2.resolve_left (by intro e;rw [e] at hkl;simp at hkl)
           have hc1:=cell_below (hr k hkl) HB.out.1 (Nat.le_refl _)
           have htk:((intsU (units s)).take (k+1)).all (hasB l)=hasB l (intsU (units s))[k]:=by
            rw [List.take_succ_eq_append_getElem hkl,List.all_append,HB.out.2]
            simp
           obtain ⟨u,hu⟩:∃ u,(intsU (units s))[k]'hkl=u:=⟨_,rfl⟩
           rw [hu] at hc1 htk
           have HC:Hid (Calls Tryz.prog 25 #[.slice la ln lc,.int .i64 u] wo fun e w'=>e = .returned (.bool (hasB l u))∧Grown wo w'):=rhas_any _ l u wo (HRS.out wo HBO.out.1)
           obtain ⟨b,hb⟩:∃ b,hasB l u=b:=⟨_,rfl⟩
           rw [hb] at HC htk
           have HT:Hid (((intsU (units s)).take (k+1)).all (hasB l)=b):=htk
           clear htk hu hb hr hkl
           go_wp2_with fail
           refine HC.out.mono ?_
           rintro e w9 ⟨rfl,hg9⟩
           have HB9:Hid (Below w8.heap.size w8 w9∧Below w.heap.size w w9):=⟨HB.out.1.trans (hg9.below.mono HB.out.1.size),(H.out.2.2 w9 (HBO.out.2.2.trans (hg9.below.mono HBO.out.2.2.size))).2⟩
           clear hg9 HC
           cases b with
           | true=>
            have HF:Hid (Below w8.heap.size w8 w9∧((intsU (units s)).take (k+1)).all (hasB l)=true):=⟨HB9.out.1,HT.out⟩
            clear HB hc1
            go_wp2
            exact ⟨⟨k+1,by go_num,by omega,HF⟩,by simp [intOf];omega⟩
           | false=>
            clear HB hc1
            go_wp2
            go_ret
            exact ⟨rfl,HB9.out.2⟩
         · have hge:¬ (k:Int)<(un:Int):=by omega
           have hall:∀ u∈intsU (units s),ovU rs u:=by
            have h1:=HB.out.2
            rw [List.take_of_length_le (by rw [HU.out.1];omega)] at h1
            exact fun u hu=>(HX.out.2.2.2.2 u).1 (hasB_inL (List.all_eq_true.1 h1 u hu))
           have ho:=H.out.2.2 wo HBO.out.2.2
           have xo:=ho.1
           have hE1:mayE rs s=0:=may_small HX.out.2.1 (by have:=HX.out.2.2.2.1;omega)
           have HR1:Hid (Calls Tryz.prog 26 #[.agg #[.slice va vn vc],.string s] wo fun e w'=>e = .returned (.tuple #[.string (runT rs s),.int .i64 0])∧Below wo.heap.size wo w'):=by
            have:=rrun_any _ rs s wo (H.out.2.1 wo ho.2).1
            rw [hE1] at this
            exact this
           have HBK:Hid ((runT rs s).size≤16384→mayE (rs.map turnR) (runT rs s)=0∧runT (rs.map turnR) (runT rs s)=s):=fun hz=>by
            have hE2:mayE (rs.map turnR) (runT rs s)=0:=may_small (by rw [HX.out.2.2.1]) hz
            exact ⟨hE2,back_text HX.out.1 hE1 hE2 hall⟩
           obtain ⟨T,hTT⟩:∃ T,runT rs s=T:=⟨_,rfl⟩
           rw [hTT] at HR1 HBK
           clear hall ho hE1 hTT HB
           go_wp2_with fail
           refine HR1.out.mono ?_
           rintro e w9 ⟨rfl,hb9⟩
           have HB9:Hid (Below W4.heap.size W4 w9∧Below w.heap.size w w9):=⟨HBO.out.2.1.trans (hb9.mono HBO.out.2.1.size),(H.out.2.2 w9 (HBO.out.2.2.trans (hb9.mono HBO.out.2.2.size))).2⟩
           have y9:=HY.out w9 HB9.out.1
           clear hb9 xo HR1
           by_cases hz:T.size≤16384
           · have hzI:¬ (16384:Int)<(T.size:Int):=by omega
             have HR2:Hid (Calls Tryz.prog 26 #[.agg #[.slice y1 y2 y3],.string T] w9 fun e w'=>e = .returned (.tuple #[.string s,.int .i64 0])∧Below w9.heap.size w9 w'):=by
              have h1:=rrun_any _ (rs.map turnR) T w9 ((HPS.out (by first | exact rfl | trivial)) w9 HB9.out.1)
              have h2:=HBK.out hz
              rw [h2.1,h2.2] at h1
              exact h1
             clear hz
             go_wp2_with fail
             refine HR2.out.mono ?_
             rintro e w10 ⟨rfl,hb10⟩
             have HF:Hid (Below w.heap.size w w10):=HB9.out.2.trans (hb10.mono HB9.out.2.size)
             clear hb10 y9
             go_wp2
             go_ret
             exact ⟨rfl,HF.out⟩
           · have hzI:(16384:Int)<(T.size:Int):=by omega
             clear hz
             go_wp2
             go_ret
             exact ⟨rfl,HB9.out.2⟩
      · have hsI:(1000:Int)<(s.size:Int):=by omega
        clear hs
        go_wp2
        go_ret
        exact ⟨rfl,HF5.out⟩
    · have d0:(oc != 0)=true:=by simpa using hoc
      go_wp2
      go_ret
      exact ⟨rfl,HF5.out⟩
  · have d0:(c != 0)=true:=by simpa using hc
    go_wp2
    go_ret
    exact ⟨rfl,HF5.out⟩
end Go.Proofs
namespace Go.Proofs.YtcfcjljapamcoaaGreatDoor
open Go.ChangeShapes Go.WideShapes Go.ChangeAt Go.RowKit Go.WideMaps Go.WideElems Go.Deep
set_option maxRecDepth 100000
section
variable {H:Type} {enc:TypeId × Value→H} {W:World}
noncomputable instance:Inhabited Rl:=⟨⟨false,false,0,[],[],[],[]⟩⟩
theorem pass_read {fuel:Nat} {cs:List Value} {x:DataW H × List MemPlace} (hf:DataW.trod enc Tryz.prog W 0 (fun _=>true) true fuel 24 cs=some x):∃ v rs,cs=[v]∧PsR W v rs∧rs.length≤Rows.uptoBulk x.1∧∀ r∈rs,Small r (Rows.uptoBulk x.1):=by
 obtain ⟨xs,k,hk,hxy,hcl,hxl,hff⟩:=DataW.trod_struct Tryz.underlying24 hf
 rw [cells24] at hcl
 match xs,hxl,cs,hcl with
 | [y0],_,[v0],_=>
  have g0:=hff 0 _ rfl
  simp [cells22] at g0
  obtain ⟨a,cap,l,hcs,h1,hm,hb,h2⟩:=slice_read Tryz.underlying22 cells60 (by decide) (fun cs d (r:Rl)=>∃ av kv pv rv,cs=[.bool r.bg,av,kv,pv,.bool r.en,rv,.int .i64 r.cu]∧RR W av kv pv rv r∧Small r (Rows.uptoBulk d)) (fun n cs x h=>by
   obtain ⟨av,kv,pv,rv,r,e,h1,h2⟩:=rule_read h
   exact ⟨r,av,kv,pv,rv,e,h1,h2⟩) g0
  have hbk:Rows.uptoBulk y0.1≤Rows.uptoBulk x.1:=by
   rw [hxy]
   simp only [List.map_cons,List.map_nil,Rows.uptoBulk,Rows.uptoBulkAll]
   omega
  have each:∀ r∈l,Small r (Rows.uptoBulk x.1):=fun r hr=>by
   rcases h2 with rfl | ⟨g,o,_,h⟩
   · cases hr
   · obtain ⟨j,hj,rfl⟩:=List.getElem_of_mem hr
     obtain ⟨cs',d,_,⟨_,_,_,_,_,_,hs⟩,h5,_⟩:=h j hj
     exact hs.mono (Nat.le_trans h5 hbk)
  simp only [List.cons.injEq,and_true] at hcs
  subst hcs
  refine ⟨_,l,rfl,⟨a,cap,rfl,h1,h2.imp id ?_⟩,Nat.le_trans hb hbk,each⟩
  rintro ⟨g,o,rfl,h⟩
  refine ⟨g,o,rfl,fun j hj => ?_⟩
  obtain ⟨cs',_,_,⟨av,kv,pv,rv,rfl,hR,_⟩,_,h3⟩:=h j hj
  exact ⟨av,kv,pv,rv,h3 0 _ rfl,h3 1 _ rfl,h3 2 _ rfl,h3 3 _ rfl,h3 4 _ rfl,h3 5 _ rfl,h3 6 _ rfl,hR⟩
end
end Go.Proofs.YtcfcjljapamcoaaGreatDoor
