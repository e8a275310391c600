/-
  Several texts in one (S2x Xy9x).
-/
import Derived.Test.YtcfcjljapamcoaaGreatDoorMpvx
import Derived.Test.YtcfcjljapamcoaaGreatDoorMpwx
import Derived.Test.YtcfcjljapamcoaaGreatDoorMpxx
import Derived.Test.YtcfcjljapamcoaaGreatDoorMgox
import Derived.Test.YtcfcjljapamcoaaGreatDoorMprx
import Derived.Test.YtcfcjljapamcoaaGreatDoorMgax
namespace Go.Proofs
open Go.RowKit Go.Shelf
set_option maxRecDepth 100000
attribute [local go_sem] Oper.semAt_some
theorem fstR_pos:∀ (rs:List Rl) (k:Nat),0≤(fstR rs k).1
 | [],_=>Int.le_refl _
 | r::l,k=>by
  rw [fstR]
  split
  · exact fstR_pos l (k+1)
  · show (0:Int)≤(k:Int)
    omega
theorem chkW_pos (rs:List Rl):0≤(chkW rs).1:=by
 unfold chkW wgh
 split
 · show 0≤(allE rs).1
   unfold allE
   split
   · exact Int.le_refl _
   · exact fstR_pos rs 0
 · split
   · rename_i n _
     show (0:Int)≤(n:Int)
     omega
   · split
     · rename_i n _ _
       show (0:Int)≤(n:Int)
       omega
     · exact Int.le_refl _
theorem TrnP.pos {rs:List Rl} {n c:Int} (h:TrnP rs n c):0≤n:=by
 rcases h with ⟨_,h,_⟩ | ⟨_,core,_,_,h⟩
 · rw [h]
   exact chkW_pos rs
 · cases h <;> omega
theorem psr_len {w:World} {a:Option Addr} {n c:Nat} {rs:List Rl} (h:PsR w (.slice a n c) rs):n=rs.length:=by
 obtain ⟨a',c',e,_⟩:=h
 injection e
set_option maxHeartbeats 8000000 in
theorem law6_any (v:Value) (rs:List Rl) (s:ByteArray) (w:World) (hT:Tab w) (h:PsR w v rs):Calls Tryz.prog 6 #[.agg #[v],.string s] w fun e w'=>e = .returned (.bool true)∧Below w.heap.size w w':=by
 obtain ⟨va,vn,vc,rfl⟩:IsSl v:=by
  obtain ⟨a,c,e,_⟩:=h
  exact ⟨a,_,c,e⟩
 have hvn:=psr_len h
 obtain ⟨W1,hW1⟩:∃ W1,w.alloc (.cells #[.slice va vn vc] 24)=W1:=⟨_,rfl⟩
 have hb1:Below w.heap.size w W1:=by rw [←hW1];exact (Below.refl _ w).alloc (Nat.le_refl _) _
 have hk1:W1.heap[w.heap.size]? = some (.cells #[.slice va vn vc] 24 (0,0)):=by rw [←hW1];exact World.alloc_heap_new _ _
 have x0:W1.cell? ⟨w.heap.size,0,none⟩=some (.slice va vn vc):=by rw [cell_of hk1];rfl
 have H:Hid (Below w.heap.size w W1∧(∀ W,Below w.heap.size w W→PsR W (.slice va vn vc) rs∧Tab W)∧(∀ W,Below W1.heap.size W1 W→W.cell? ⟨w.heap.size,0,none⟩=some (.slice va vn vc)∧Below w.heap.size w W)∧vn=rs.length):=⟨hb1,fun W hb=>⟨h.below hb (Nat.le_refl _),fun j v hv=>cell_below (hT j v hv) hb (Nat.le_refl _)⟩,fun W hb=>⟨cell_below x0 hb (Nat.le_refl _),hb1.trans (hb.mono hb1.size)⟩,hvn⟩
 have HB9:Hid (Calls Tryz.prog 9 #[.agg #[.slice va vn vc]] W1 fun e w'=>IsB e∧Below W1.heap.size W1 w'):=beyond9_all _ rs W1 (h.below hb1 (Nat.le_refl _))
 clear h hT hb1 hk1 hvn
 go_enter Tryz.func6,Tryz.ntmps6
 go_wp2_with fail
 refine HB9.out.mono ?_
 rintro e w1 ⟨⟨b,rfl⟩,hb⟩
 have HB1:Hid (Below W1.heap.size W1 w1):=hb
 clear hb HB9 x0 hW1
 cases b with
 | true=>
  have HF:Hid (Below w.heap.size w w1):=(H.out.2.2.1 w1 HB1.out).2
  go_wp2
  go_ret
  exact ⟨rfl,HF.out⟩
 | false=>
  go_wp2_with fail
  refine (shown19_any w1 (H.out.2.1 w1 (H.out.2.2.1 w1 HB1.out).2).2).mono ?_
  rintro e w2 ⟨rfl,hb2⟩
  have HB2:Hid (Below W1.heap.size W1 w2):=HB1.out.trans (by
   have:=(H.out.2.2.1 w1 HB1.out).2
   exact hb2.mono HB1.out.size)
  have h2:=H.out.2.2.1 w2 HB2.out
  have x2:=h2.1
  have HC:Hid (Calls Tryz.prog 12 #[.agg #[.slice va vn vc]] w2 (TrnQ w2 rs)):=turn12_any _ rs w2 (H.out.2.1 w2 h2.2).2 (H.out.2.1 w2 h2.2).1
  clear hb2 h2 HB1
  go_wp2_with fail
  refine HC.out.mono ?_
  rintro e w3 ⟨y1,y2,y3,n,c,rfl,htr,hno,hps,hb3⟩
  have HTR:Hid (TrnP rs n c∧(c≠0→y1=none∧y2=0∧y3=0)):=⟨htr,hno⟩
  obtain ⟨W4,hW4⟩:∃ W4,w3.alloc (.cells #[.slice y1 y2 y3] 24)=W4:=⟨_,rfl⟩
  have hb4:Below w3.heap.size w3 W4:=by rw [←hW4];exact (Below.refl _ w3).alloc (Nat.le_refl _) _
  have hk4:W4.heap[w3.heap.size]? = some (.cells #[.slice y1 y2 y3] 24 (0,0)):=by rw [←hW4];exact World.alloc_heap_new _ _
  have y4:W4.cell? ⟨w3.heap.size,0,none⟩=some (.slice y1 y2 y3):=by rw [cell_of hk4];rfl
  have HB4:Hid (Below W1.heap.size W1 W4):=HB2.out.trans ((hb3.trans (hb4.mono hb3.size)).mono HB2.out.size)
  by_cases hc:c=0
  · subst hc
    obtain ⟨rfl,hchk,hOK,h256⟩:=htr.bk
    have hps4:=(hps rfl).now.below hb4 (Nat.le_refl _)
    have hy2:=psr_len hps4
    rw [List.length_map] at hy2
    have HQ:Hid ((∀ W,Below W4.heap.size W4 W→PsR W (.slice y1 y2 y3) (rs.map turnR)∧W.cell? ⟨w3.heap.size,0,none⟩=some (.slice y1 y2 y3))∧(∀ r∈rs,Ok r∧Bk r)∧rs.length≤256∧(chkW rs).2=0):=⟨fun W hb=>⟨hps4.below hb (Nat.le_refl _),cell_below y4 hb (Nat.le_refl _)⟩,hOK,h256,hchk⟩
    have HM:Hid (Calls Tryz.prog 22 #[.agg #[.slice y1 y2 y3]] W4 fun e w'=>e = .returned (.tuple #[.int .i64 0,.int .i64 0])∧Below W4.heap.size W4 w'):=by
     have:=rchkA _ (rs.map turnR) W4 hps4
     rw [turned_may hOK h256] at this
     exact this
    obtain rfl:y2=vn:=by rw [hy2,H.out.2.2.2]
    clear hps hps4 hb3 hb4 hk4 hOK h256 hchk htr hno x2 HC hy2
    go_wp2_with fail
    clear hW4
    refine HM.out.mono ?_
    rintro e w5 ⟨rfl,hb5⟩
    have HB5:Hid (Below W4.heap.size W4 w5∧Below W1.heap.size W1 w5):=⟨hb5,HB4.out.trans (hb5.mono HB4.out.size)⟩
    have h5:=H.out.2.2.1 w5 HB5.out.2
    have x5:=h5.1
    have y5:=(HQ.out.1 w5 hb5).2
    have HC2:Hid (Calls Tryz.prog 12 #[.agg #[.slice y1 y2 y3]] w5 (TrnQ w5 (rs.map turnR))):=turn12_any _ (rs.map turnR) w5 (H.out.2.1 w5 h5.2).2 (HQ.out.1 w5 hb5).1
    clear hb5 HM y4 h5
    go_wp2_with fail
    refine HC2.out.mono ?_
    rintro e w6 ⟨z1,z2,z3,n2,c2,rfl,htr2,-,hps2,hb6⟩
    obtain ⟨W7,hW7⟩:∃ W7,w6.alloc (.cells #[.slice z1 z2 z3] 24)=W7:=⟨_,rfl⟩
    have hb7:Below w6.heap.size w6 W7:=by rw [←hW7];exact (Below.refl _ w6).alloc (Nat.le_refl _) _
    have hk7:W7.heap[w6.heap.size]? = some (.cells #[.slice z1 z2 z3] 24 (0,0)):=by rw [←hW7];exact World.alloc_heap_new _ _
    have HB7:Hid (Below W1.heap.size W1 W7):=HB5.out.2.trans ((hb6.trans (hb7.mono hb6.size)).mono HB5.out.2.size)
    have h7:=H.out.2.2.1 W7 HB7.out
    have x7:=h7.1
    by_cases hc2:c2=0
    · subst hc2
      by_cases hs:s.size≤1000
      · have hsI:¬ (1000:Int)<(s.size:Int):=by omega
        have hbk2:=htr2.bk
        have hps7:=(hps2 rfl).now.below hb7 (Nat.le_refl _)
        have hE1:mayE rs s=0:=may_small HQ.out.2.2.2 (by omega)
        have hE2:mayE ((rs.map turnR).map turnR) s=0:=may_small (by rw [turned_may hbk2.2.2.1 hbk2.2.2.2]) (by omega)
        have hrun:runT ((rs.map turnR).map turnR) s=runT rs s:=(twice_alks HQ.out.2.1 hbk2.2.2.1).run hE1 hE2
        have HR1:Hid (∀ W,Below W7.heap.size W7 W→Calls Tryz.prog 26 #[.agg #[.slice va y2 vc],.string s] W fun e w'=>e = .returned (.tuple #[.string (runT rs s),.int .i64 0])∧Below W.heap.size W w'):=fun W hb=>by
         have h1:=HB7.out.trans (hb.mono HB7.out.size)
         have:=rrun_any _ rs s W (H.out.2.1 W (H.out.2.2.1 W h1).2).1
         rw [hE1] at this
         exact this
        have HR2:Hid (∀ W,Below W7.heap.size W7 W→Calls Tryz.prog 26 #[.agg #[.slice z1 z2 z3],.string s] W fun e w'=>e = .returned (.tuple #[.string (runT rs s),.int .i64 0])∧Below W.heap.size W w'):=fun W hb=>by
         have:=rrun_any _ ((rs.map turnR).map turnR) s W (hps7.below hb (Nat.le_refl _))
         rw [hE2,hrun] at this
         exact this
        have HZ:Hid (∀ W,Below W7.heap.size W7 W→W.cell? ⟨w6.heap.size,0,none⟩=some (.slice z1 z2 z3)):=fun W hb=>cell_below (by rw [cell_of hk7];rfl) hb (Nat.le_refl _)
        obtain ⟨T,hTT⟩:∃ T,runT rs s=T:=⟨_,rfl⟩
        rw [hTT] at HR1 HR2
        clear hbk2 hps7 hE1 hE2 hrun hps2 hb6 hb7 hk7 h7 htr2 HC2 x5 y5 hTT hs
        go_wp2_with fail
        clear hW7
        refine (HR1.out W7 (Below.refl _ _)).mono ?_
        rintro e w8 ⟨rfl,hb8⟩
        have HB8:Hid (Below W7.heap.size W7 w8):=hb8
        have z8:=HZ.out w8 hb8
        clear hb8 x7
        go_wp2_with fail
        refine (HR2.out w8 HB8.out).mono ?_
        rintro e w9 ⟨rfl,hb9⟩
        have HF:Hid (Below w.heap.size w w9):=(H.out.2.2.1 w9 (HB7.out.trans ((HB8.out.trans (hb9.mono HB8.out.size)).mono HB7.out.size))).2
        clear hb9 z8
        go_wp2
        go_ret
        exact ⟨rfl,HF.out⟩
      · have hsI:(1000:Int)<(s.size:Int):=by omega
        have HF:Hid (Below w.heap.size w W7):=h7.2
        clear hps2 hb6 hb7 hk7 h7 htr2 HC2 hs
        go_wp2
        go_ret
        exact ⟨rfl,HF.out⟩
    · have d0:(c2 != 0)=true:=by simpa using hc2
      have HF:Hid (Below w.heap.size w W7):=h7.2
      clear hps2 hb6 hb7 hk7 h7 htr2 HC2
      go_wp2
      go_ret
      exact ⟨rfl,HF.out⟩
  · have d0:(c != 0)=true:=by simpa using hc
    obtain ⟨rfl,rfl,rfl⟩:=hno hc
    have hn0:0≤n:=htr.pos
    have f4:W4.frozen? ⟨w3.heap.size,0,none⟩=false:=free_of hk4
    have HF:Hid (Below w.heap.size w (W4.setCell ⟨w3.heap.size,0,none⟩ (.slice none 0 0))):=(H.out.2.2.1 W4 HB4.out).2.setCell (show w.heap.size≤w3.heap.size from Nat.le_trans H.out.1.size (Nat.le_trans HB2.out.size hb3.size)) _
    clear hps hb3 hb4 hk4 htr hno x2 HC HTR
    go_wp2
    go_ret
    exact ⟨rfl,HF.out⟩
end Go.Proofs
namespace Go.Proofs.YtcfcjljapamcoaaGreatDoor
open Go.ChangeShapes Go.WideShapes Go.ChangeAt Go.RowKit Go.WideMaps Go.WideElems Go.Deep
set_option maxRecDepth 100000
section
variable {H:Type} {enc:TypeId × Value→H} {W:World}
noncomputable instance:Inhabited Rl:=⟨⟨false,false,0,[],[],[],[]⟩⟩
theorem pass_read {fuel:Nat} {cs:List Value} {x:DataW H × List MemPlace} (hf:DataW.trod enc Tryz.prog W 0 (fun _=>true) true fuel 24 cs=some x):∃ v rs,cs=[v]∧PsR W v rs∧rs.length≤Rows.uptoBulk x.1∧∀ r∈rs,Small r (Rows.uptoBulk x.1):=by
 obtain ⟨xs,k,hk,hxy,hcl,hxl,hff⟩:=DataW.trod_struct Tryz.underlying24 hf
 rw [cells24] at hcl
 match xs,hxl,cs,hcl with
 | [y0],_,[v0],_=>
  have g0:=hff 0 _ rfl
  simp [cells22] at g0
  obtain ⟨a,cap,l,hcs,h1,hm,hb,h2⟩:=slice_read Tryz.underlying22 cells60 (by decide) (fun cs d (r:Rl)=>∃ av kv pv rv,cs=[.bool r.bg,av,kv,pv,.bool r.en,rv,.int .i64 r.cu]∧RR W av kv pv rv r∧Small r (Rows.uptoBulk d)) (fun n cs x h=>by
   obtain ⟨av,kv,pv,rv,r,e,h1,h2⟩:=rule_read h
   exact ⟨r,av,kv,pv,rv,e,h1,h2⟩) g0
  have hbk:Rows.uptoBulk y0.1≤Rows.uptoBulk x.1:=by
   rw [hxy]
   simp only [List.map_cons,List.map_nil,Rows.uptoBulk,Rows.uptoBulkAll]
   omega
  have each:∀ r∈l,Small r (Rows.uptoBulk x.1):=fun r hr=>by
   rcases h2 with rfl | ⟨g,o,_,h⟩
   · cases hr
   · obtain ⟨j,hj,rfl⟩:=List.getElem_of_mem hr
     obtain ⟨cs',d,_,⟨_,_,_,_,_,_,hs⟩,h5,_⟩:=h j hj
     exact hs.mono (Nat.le_trans h5 hbk)
  simp only [List.cons.injEq,and_true] at hcs
  subst hcs
  refine ⟨_,l,rfl,⟨a,cap,rfl,h1,h2.imp id ?_⟩,Nat.le_trans hb hbk,each⟩
  rintro ⟨g,o,rfl,h⟩
  refine ⟨g,o,rfl,fun j hj => ?_⟩
  obtain ⟨cs',_,_,⟨av,kv,pv,rv,rfl,hR,_⟩,_,h3⟩:=h j hj
  exact ⟨av,kv,pv,rv,h3 0 _ rfl,h3 1 _ rfl,h3 2 _ rfl,h3 3 _ rfl,h3 4 _ rfl,h3 5 _ rfl,h3 6 _ rfl,hR⟩
end
end Go.Proofs.YtcfcjljapamcoaaGreatDoor
