/-
  Several texts in one (Z8x Xzx Xyx Xwx).
-/
import Derived.Test.YtcfcjljapamcoaaGreatDoorZ7x
import Derived.Test.YtcfcjljapamcoaaGreatDoorMpjx
import Derived.Test.YtcfcjljapamcoaaGreatDoorCards
import Derived.Test.YtcfcjljapamcoaaGreatDoorTie
import Derived.WalkKit
import Derived.ProofKit
import Derived.OpenShut
import Derived.Deep.DeepHandedRow
import Derived.Lib.LaidTab
import Derived.Test.YtcfcjljapamcoaaGreatDoorMpax
import Derived.Deep.SlicePairs
import Derived.Test.YtcfcjljapamcoaaGreatDoorMpbx
import Derived.SizedLaws
import Derived.Test.YtcfcjljapamcoaaGreatDoorMpdx
namespace Go.Proofs
open Go.RowKit Go.Shelf
set_option maxRecDepth 100000
attribute [local go_sem] Oper.semAt_some
def ovU (rs:List Rl) (u:Int):Prop:=inL allU u=true∧¬ ((∃ l∈lsB rs,inL l u=true)∧¬ ∃ l∈lsG rs,inL l u=true)
def OvR (rs:List Rl) (s:List (Int × Int)) (n c:Int):Prop:=
 (c≠0∧TrnP rs n c∧s=[]) ∨
 (TrnP rs 0 0∧∃ t,Up t∧(∀ u,inL t u=true↔ovU rs u)∧(512<t.length∧s=[]∧n=rs.length∧c=194∨t.length≤512∧s=t∧n=0∧c=0))
def OveQ (w:World) (rs:List Rl) (e:Ending) (w':World):Prop:=∃ v n c s,e = .returned (.tuple #[v,.int .i64 n,.int .i64 c])∧OwnR w' w.heap.size v s∧Below w.heap.size w w'∧OvR rs s n c
theorem bdr_up {s:List (Int × Int)} (hU:Up s) (hu:∀ u,inL s u=true→0≤u∧u≤1114367):∀ x∈s,Bdr x:=fun x hx=>by
 obtain ⟨j,hj,rfl⟩:=List.mem_iff_getElem.1 hx
 have h1:=up_at hU hj
 rw [rg_lt hj] at h1
 have i1:=hu s[j].1 (List.any_eq_true.2 ⟨_,List.getElem_mem hj,by unfold inR;simp;omega⟩)
 have i2:=hu s[j].2 (List.any_eq_true.2 ⟨_,List.getElem_mem hj,by unfold inR;simp;omega⟩)
 unfold Bdr
 omega
theorem okS_in {l:List (Int × Int)} (h:okS l=true) {u:Int} (hu:inL l u=true):0≤u∧u≤1114367:=by
 have hg:=((validB_iff l).1 (okS_valid h)).2
 obtain ⟨x,hx,h1⟩:=List.any_eq_true.1 hu
 unfold inR at h1
 simp at h1
 have h2:=(hg.1 x hx).2
 omega
theorem allU_up:Up allU:=⟨by simp [allU],by simp [allU]⟩
theorem allU_in {u:Int} (h:inL allU u=true):0≤u∧u≤1114367:=by
 simp [inL,allU,inR] at h
 omega
theorem Bk.res {r:Rl} (h:Bk r):r.res≠[]:=fun e=>by
 have:=h.i0
 rw [img_len,e] at this
 simp at this
set_option maxHeartbeats 8000000 in
theorem over_any (rv:Value) (rs:List Rl) (w:World) (hT:Tab w) (h:PsR w rv rs):Calls Tryz.prog 18 #[.agg #[rv]] w (OveQ w rs):=by
 obtain ⟨ra,rc,rfl,hrc,hro⟩:=h
 obtain ⟨n,hn⟩:∃ n,rs.length=n:=⟨_,rfl⟩
 have hps:PsR w (.slice ra n rc) rs:=⟨ra,rc,by rw [hn],hrc,hro⟩
 rw [hn]
 obtain ⟨W1,hW1⟩:∃ W1,w.alloc (.cells #[.slice ra n rc] 24)=W1:=⟨_,rfl⟩
 have hb1:Below w.heap.size w W1:=by rw [←hW1];exact (Below.refl _ w).alloc (Nat.le_refl _) _
 have hk1:W1.heap[w.heap.size]? = some (.cells #[.slice ra n rc] 24 (0,0)):=by rw [←hW1];exact World.alloc_heap_new _ _
 have HT1:Hid (Tab W1):=fun j v hv=>cell_below (hT j v hv) hb1 (Nat.le_refl _)
 have HC:Hid (Calls Tryz.prog 37 #[.agg #[.slice ra n rc]] W1 (WaysQ W1 rs)):=ways_any _ rs W1 HT1.out (hps.below hb1 (Nat.le_refl _))
 have x0:W1.cell? ⟨w.heap.size,0,none⟩=some (.slice ra n rc):=by rw [cell_of hk1];rfl
 have HN:Hid (rs.length=n∧Below w.heap.size w W1∧(∀ W,Below W1.heap.size W1 W→W.cell? ⟨w.heap.size,0,none⟩=some (.slice ra n rc))):=⟨hn,hb1,fun W hb=>cell_below x0 hb (Nat.le_refl _)⟩
 clear hps hro hrc hT hn hb1 hk1
 go_enter Tryz.func18,Tryz.ntmps18
 go_wp2_with fail
 refine HC.out.mono ?_
 rintro e w2 ⟨v,i,c,rfl,hsl,hb2,hw⟩
 obtain ⟨va,vn,vc,rfl⟩:=hsl
 have HW:Hid (TrnP rs i c∧(c=0→WyR w2 (.slice va vn vc) rs)):=hw.trn
 have HB2:Hid (Below W1.heap.size W1 w2∧Below w.heap.size w w2):=⟨hb2,HN.out.2.1.trans (hb2.mono HN.out.2.1.size)⟩
 clear hb2 hw HC x0 hW1
 by_cases hc:c=0
 · have d0:(c != 0)=false:=by simp [hc]
   subst hc
   have HO:Hid (i=0∧(chkW rs).2=0∧(∀ r∈rs,Ok r∧Bk r)∧rs.length≤256):=HW.out.1.bk
   have HA:Hid (Calls Tryz.prog 50 #[] w2 fun e w'=>∃ v,e = .returned v∧OwnR w' w2.heap.size v allU∧Below w2.heap.size w2 w'):=setAny_any w2 fun j v hv=>cell_below (HT1.out j v hv) HB2.out.1 (Nat.le_refl _)
   have HL:Hid (∀ W,Below w2.heap.size w2 W→Calls Tryz.prog 51 #[.slice va vn vc] W (LosQ W rs)):=fun W hb=>lost_any W _ rs ((HW.out.2 rfl).below hb (Nat.le_refl _)) HO.out.2.2.2 (fun r hr=>(HO.out.2.2.1 r hr).1) (fun r hr=>(HO.out.2.2.1 r hr).2.res)
   go_wp2_with fail
   refine HA.out.mono ?_
   rintro e w3 ⟨v3,rfl,hO3,hb3⟩
   obtain ⟨a3,c3,e3,_⟩:=hO3.rs
   subst e3
   have H3:Hid (OwnR w3 w2.heap.size (.slice a3 allU.length c3) allU∧Below w2.heap.size w2 w3):=⟨hO3,hb3⟩
   obtain ⟨n3,hn3⟩:∃ n3,allU.length=n3:=⟨_,rfl⟩
   rw [hn3] at H3 ⊢
   clear hO3 hb3 hn3 HA
   go_wp2_with fail
   refine (HL.out w3 H3.out.2).mono ?_
   rintro e w4 ⟨v4,s4,rfl,hO4,hU4,hu4,hb4⟩
   obtain ⟨a4,c4,e4,_⟩:=hO4.rs
   subst e4
   have hin4:∀ u,inL s4 u=true→0≤u∧u≤1114367:=fun u h=>by
    obtain ⟨⟨l,hl,hx⟩,_⟩:=(hu4 u).1 h
    exact okS_in (lsB_ok (fun r hr=>(HO.out.2.2.1 r hr).1) (fun r hr=>(HO.out.2.2.1 r hr).2.res) l hl) hx
   have HS:Hid (Calls Tryz.prog 49 #[.slice a3 n3 c3,.slice a4 s4.length c4] w4 (LesQ w4 allU s4)):=
    less_any w4 _ _ allU s4 (H3.out.1.rs.below hb4 (Nat.le_refl _)) hO4.rs (by simp [allU]) (up_len hU4 hin4) (bdr_up allU_up fun u h=>allU_in h) (bdr_up hU4 hin4) allU_up hU4
   have H4:Hid ((∀ u,inL s4 u=true↔((∃ l∈lsB rs,inL l u=true)∧¬ ∃ l∈lsG rs,inL l u=true))∧Below w2.heap.size w2 w4):=⟨hu4,H3.out.2.trans (hb4.mono H3.out.2.size)⟩
   obtain ⟨n4,hn4⟩:∃ n4,s4.length=n4:=⟨_,rfl⟩
   rw [hn4] at HS ⊢
   clear hO4 hU4 hu4 hb4 hin4 hn4 HL
   go_wp2_with fail
   refine HS.out.mono ?_
   rintro e w5 ⟨v5,t,rfl,hO5,hU5,hu5,hb5⟩
   obtain ⟨a5,c5,e5,_⟩:=hO5.rs
   subst e5
   have HB5:Hid (Below w2.heap.size w2 w5∧Below w.heap.size w w5):=by
    have h1:=H4.out.2.trans (hb5.mono H4.out.2.size)
    exact ⟨h1,HB2.out.2.trans (h1.mono HB2.out.2.size)⟩
   have H5:Hid (Up t∧(∀ u,inL t u=true↔ovU rs u)∧OwnR w5 w.heap.size (.slice a5 t.length c5) t):=⟨hU5,fun u=>by
    rw [hu5,←Bool.not_eq_true,H4.out.1]
    rfl,hO5.le (Nat.le_trans HB2.out.2.size H4.out.2.size)⟩
   have hin5:∀ u,inL t u=true→0≤u∧u≤1114367:=fun u h=>allU_in ((hu5 u).1 h).1
   have hl5:=up_len hU5 hin5
   have HT0:Hid (TrnP rs 0 0):=by
    have h1:=HW.out.1
    rw [HO.out.1] at h1
    exact h1
   obtain ⟨m,hm⟩:∃ m,t.length=m:=⟨_,rfl⟩
   have HM:Hid (t.length=m):=hm
   rw [hm] at H5 hl5 ⊢
   have x5:=HN.out.2.2 w5 (HB2.out.1.trans (HB5.out.1.mono HB2.out.1.size))
   clear hO5 hU5 hu5 hb5 hin5 hm HS
   by_cases h5:512<m
   · have d5:(512:Int)<(m:Int):=by omega
     have HF:Hid (∀ W,Below w5.heap.size w5 W→OveQ w rs (.returned (.tuple #[.slice none 0 0,.int .i64 n,.int .i64 194])) W):=fun W hb=>⟨_,_,_,[],rfl,OwnR.nil _ _,HB5.out.2.trans (hb.mono HB5.out.2.size),.inr ⟨HT0.out,t,H5.out.1,H5.out.2.1,.inl ⟨by rw [HM.out];exact h5,rfl,by rw [HN.out.1],rfl⟩⟩⟩
     clear h5
     go_wp2
     go_region
     all_goals
      go_wp2
      go_ret3
      exact HF.out _ (by first | exact Below.refl _ _ | exact ((Grown.refl _).drew).below | exact ((Grown.refl _).drewN _).below)
   · have d5:¬ (512:Int)<(m:Int):=by omega
     have HF:Hid (OveQ w rs (.returned (.tuple #[.slice a5 m c5,.int .i64 0,.int .i64 0])) w5):=⟨_,_,_,t,rfl,H5.out.2.2,HB5.out.2,.inr ⟨HT0.out,t,H5.out.1,H5.out.2.1,.inr ⟨by have:=HM.out;omega,rfl,rfl,rfl⟩⟩⟩
     clear h5 x5
     go_wp2
     exact bodyPost_ret (v := .tuple #[.slice a5 m c5,.int .i64 0,.int .i64 0]) (by simp [results,Tryz.f18,go_sem]) rfl HF.out
 · have d0:(c != 0)=true:=by simp [hc]
   have HF:Hid (OveQ w rs (.returned (.tuple #[.slice none 0 0,.int .i64 i,.int .i64 c])) w2):=⟨_,_,_,[],rfl,OwnR.nil _ _,HB2.out.2,.inl ⟨hc,HW.out.1,rfl⟩⟩
   clear hc
   go_wp2
   exact bodyPost_ret (v := .tuple #[.slice none 0 0,.int .i64 i,.int .i64 c]) (by simp [results,Tryz.f18,go_sem]) rfl HF.out
end Go.Proofs
namespace Go.Proofs.YtcfcjljapamcoaaGreatDoor
open Go.ChangeShapes Go.WideShapes Go.ChangeAt Go.RowKit
theorem own:ownKnob Tryz.prog.godebug=none:=by kernel_rfl
theorem gTab : Tryz.prog.globalNamed "respell/set.blocks" = some 0 := by kernel_rfl
theorem gTabType:(Tryz.prog.globals[0]?).map (·.type)=some 119:=by kernel_rfl
theorem cells119:Tryz.prog.cellsOf 119=6:=by kernel_rfl
theorem cells67:Tryz.prog.cellsOf 67=2:=by kernel_rfl
theorem cells3:Tryz.prog.cellsOf 3=1:=by kernel_rfl
set_option maxRecDepth 100000 in
theorem rowOf {H:Type} {enc:TypeId × Value→H} {W:World} {base:Nat} {sp:Nat→Bool} {held:Bool} {fuel:Nat} {cs:List Value} {a b:Int} {p:List MemPlace}
 (h:DataW.trod enc Tryz.prog W base sp held fuel 67 cs=some (.agg [.lit (.int .i64 a),.lit (.int .i64 b)],p)):cs=[.int .i64 a,.int .i64 b]:=by
 cases fuel with
 | zero=>simp [DataW.trod] at h
 | succ m=>
  simp only [DataW.trod,Tryz.underlying67] at h
  split at h
  · rename_i hl
    rw [cells67] at hl
    match cs,hl with
    | [c0,c1],_=>
     simp only [cells3,List.mapM_cons,List.mapM_nil,Option.bind_eq_bind,Option.bind_eq_some_iff,Option.map_eq_some_iff,Option.pure_def,Option.some.injEq,List.drop_zero,List.take_succ_cons,List.take_zero,List.drop_succ_cons] at h
     obtain ⟨xs,⟨x0,h0,xs1,⟨x1,h1,xs2,rfl,rfl⟩,rfl⟩,hx⟩:=h
     obtain ⟨n0,e0,rfl,_⟩:=DataW.trod_int Tryz.underlying3 h0
     obtain ⟨n1,e1,rfl,_⟩:=DataW.trod_int Tryz.underlying3 h1
     simp at e0 e1 hx
     obtain ⟨⟨rfl,rfl⟩,_⟩:=hx
     rw [e0,e1]
  · cases h
theorem split6 (l:List Value) (h:l.length=6):l=(l.drop (0*2)).take 2++((l.drop (1*2)).take 2++(l.drop (2*2)).take 2):=by
 match l,h with
 | [c0,c1,c2,c3,c4,c5],_=>rfl
set_option maxRecDepth 100000 in
theorem table {W : World} (h : laidMet Tryz.prog [("respell/set.blocks", Rows.laid_respell_set_blocks)] W) : Tab W := by
 obtain ⟨ps,⟨g',t',cs,fuel,p,q,hg',ht',hvar,hd,_,_⟩,_⟩:=h
 obtain rfl:=Option.some.inj (gTab.symm.trans hg')
 obtain rfl:=Option.some.inj (gTabType.symm.trans ht')
 obtain ⟨xs,m,rfl,hx,hl,hn,hi⟩:=DataW.trod_array Tryz.underlying119 hd
 rw [cells119] at hl
 rw [cells67] at hi
 have hx1:=(Prod.mk.inj hx).1
 simp only [Rows.laid_respell_set_blocks] at hx1
 match xs,hn with
 | [x0,x1,x2],_=>
  obtain ⟨y0,p0⟩:=x0
  obtain ⟨y1,p1⟩:=x1
  obtain ⟨y2,p2⟩:=x2
  simp only [List.map_cons,List.map_nil,DataW.agg.injEq,List.cons.injEq,and_true] at hx1
  obtain ⟨rfl,rfl,rfl⟩:=hx1
  have r0:=rowOf (hi 0 (by omega))
  have r1:=rowOf (hi 1 (by omega))
  have r2:=rowOf (hi 2 (by omega))
  have hcs:=split6 cs.toList hl
  rw [r0,r1,r2] at hcs
  have hca:cs=blkV:=by rw [←Array.toArray_toList (xs:=cs),hcs];rfl
  intro j v hv
  have hc:=World.var?_cell gTab hvar j
  rw [hc,hca]
  exact hv
end Go.Proofs.YtcfcjljapamcoaaGreatDoor
namespace Go.Proofs.YtcfcjljapamcoaaGreatDoor
open Go.ChangeShapes Go.WideShapes Go.ChangeAt Go.RowKit Go.WideMaps Go.WideElems
theorem laidOut:laidOutB Tryz.prog=true:=by kernel_rfl
end Go.Proofs.YtcfcjljapamcoaaGreatDoor
namespace Go.Proofs.YtcfcjljapamcoaaGreatDoor
open Go.ChangeShapes Go.WideShapes Go.ChangeAt Go.RowKit Go.WideMaps Go.WideElems Go.Deep
set_option maxRecDepth 100000
theorem cells40:Tryz.prog.cellsOf 40=1:=by kernel_rfl
theorem cells64:Tryz.prog.cellsOf 64=4:=by kernel_rfl
theorem cells34:Tryz.prog.cellsOf 34=1:=by kernel_rfl
theorem cells58:Tryz.prog.cellsOf 58=1:=by kernel_rfl
theorem cells60:Tryz.prog.cellsOf 60=7:=by kernel_rfl
theorem cells22:Tryz.prog.cellsOf 22=1:=by kernel_rfl
theorem cells24:Tryz.prog.cellsOf 24=1:=by kernel_rfl
theorem cells4:Tryz.prog.cellsOf 4=1:=by kernel_rfl
theorem bulk_pos {H:Type} (d:DataW H):1≤Rows.uptoBulk d:=by
 cases d with
 | lit l=>cases l <;> simp [Rows.uptoBulk]
 | _=>simp [Rows.uptoBulk]
theorem bulk_len {H:Type} : ∀ l:List (DataW H),l.length≤Rows.uptoBulkAll l
 | []=>by simp [Rows.uptoBulkAll]
 | d::r=>by
  have h1:=bulk_pos d
  have h2:=bulk_len r
  simp only [List.length_cons,Rows.uptoBulkAll]
  omega
theorem bulk_mem {H:Type} : ∀ (l:List (DataW H)) (d:DataW H),d∈l→Rows.uptoBulk d≤Rows.uptoBulkAll l
 | [],d,h=>by cases h
 | e::r,d,h=>by
  simp only [Rows.uptoBulkAll]
  rcases List.mem_cons.1 h with rfl | h
  · omega
  · have:=bulk_mem r d h
    omega
section
variable {H:Type} {enc:TypeId × Value→H} {W:World}
theorem slice_read {α:Type} [Inhabited α] {t e:TypeId} {s:Nat} (ht:Tryz.prog.underlying t=some (.slice e)) (hs:Tryz.prog.cellsOf e=s) (hpos:0<s) (R:List Value→DataW H→α→Prop)
 (hR:∀ n cs x,DataW.trod enc Tryz.prog W 0 (fun _=>true) true n e cs=some x→∃ y,R cs x.1 y) {fuel:Nat} {cs:List Value} {x:DataW H × List MemPlace} (hf:DataW.trod enc Tryz.prog W 0 (fun _=>true) true fuel t cs=some x) :
 ∃ (a:Option Addr) (cap:Nat) (l:List α),cs=[.slice a l.length cap]∧l.length≤cap∧l.length≤maxLen∧l.length≤Rows.uptoBulk x.1∧(l=[]∨∃ g o,a=some ⟨g,o,none⟩∧∀ (j:Nat) (hj:j<l.length),∃ cs' d,cs'.length=s∧R cs' d l[j]∧Rows.uptoBulk d≤Rows.uptoBulk x.1∧∀ i v,cs'[i]? = some v→W.cell? ⟨g,o+j*s+i,none⟩=some v):=by
 rcases open_slice ht hf with ⟨hcs,hx⟩ | ⟨a,len,cap,m,n,D,Pl,hcs,_,hl,hml,hm,hx,hcell⟩
 · exact ⟨none,0,[],by rw [hcs];rfl,Nat.le_refl _,by simp,by simp,.inl rfl⟩
 · simp only [if_true] at hm
   subst hm
   rw [hs] at hcell
   have each:∀ i,i<len→∃ y:α,∃ cs',cs'.length=s∧R cs' (D i) y∧∀ k v,cs'[k]? = some v→W.cell? (a.add (i*s+k))=some v:=by
    intro i hi
    obtain ⟨cs',h1,h2⟩:=hcell i (by omega)
    obtain ⟨_,hlen,hc⟩:=World.cells?_some h1
    obtain ⟨y,hy⟩:=hR _ _ _ h2
    refine ⟨y,cs',hlen,hy,fun k v hv => ?_⟩
    have hk:=(List.getElem?_eq_some_iff.1 hv).1
    have:=hc k (by omega)
    rw [add_add] at this
    rw [this]
    exact hv
   obtain ⟨q,hq⟩:=choose_lt each
   have hlen:((List.range len).map q).length=len:=by simp
   have hbulk:∀ i,i<len→Rows.uptoBulk (D i)≤Rows.uptoBulk x.1:=fun i hi=>by
    rw [hx]
    simp only [Rows.uptoBulk]
    have:=bulk_mem ((List.range len).map D) (D i) (List.mem_map.2 ⟨i,by simpa using hi,rfl⟩)
    omega
   have hbl:len≤Rows.uptoBulk x.1:=by
    rw [hx]
    simp only [Rows.uptoBulk]
    have:=bulk_len ((List.range len).map D)
    simp only [List.length_map,List.length_range] at this
    omega
   refine ⟨some a,m,(List.range len).map q,by rw [hlen,hcs],by rw [hlen];exact hl,by rw [hlen];exact Nat.le_trans hl hml,by rw [hlen];exact hbl,?_⟩
   by_cases h0:len=0
   · exact .inl (by rw [h0];rfl)
   · obtain ⟨b,off,spot⟩:=a
     have hspot:spot=none:=by
      obtain ⟨cs',h1,h2,h3⟩:=hq 0 (by omega)
      have hlt:0<cs'.length:=by omega
      have:=h3 0 cs'[0] (List.getElem?_eq_getElem hlt)
      simpa [Addr.add] using World.cell?_spot this
     subst hspot
     refine .inr ⟨b,off,rfl,fun j hj => ?_⟩
     rw [hlen] at hj
     obtain ⟨cs',h1,h2,h3⟩:=hq j hj
     refine ⟨cs',D j,h1,by simpa using h2,hbulk j hj,fun i v hv => ?_⟩
     have:=h3 i v hv
     rw [Addr.add_lit] at this
     rw [Nat.add_assoc]
     exact this
theorem set_read {fuel:Nat} {cs:List Value} {x:DataW H × List MemPlace} (hf:DataW.trod enc Tryz.prog W 0 (fun _=>true) true fuel 40 cs=some x):∃ v l,cs=[v]∧Rs W v l∧l.length≤Rows.uptoBulk x.1:=by
 obtain ⟨a,cap,l,hcs,h1,_,hb,h2⟩:=slice_read Tryz.underlying40 cells67 (by decide) (fun cs _ (p:Int × Int)=>cs=[.int .i64 p.1,.int .i64 p.2]) (fun n cs x h=>by
  obtain ⟨xs,k,hk,hxy,hcl,hxl,hff⟩:=DataW.trod_struct Tryz.underlying67 h
  rw [cells67] at hcl
  match xs,hxl,cs,hcl with
  | [y0,y1],_,[v0,v1],_=>
   have g0:=hff 0 _ rfl
   have g1:=hff 1 _ rfl
   simp [cells3] at g0 g1
   obtain ⟨n0,e0,_,_⟩:=DataW.trod_int Tryz.underlying3 g0
   obtain ⟨n1,e1,_,_⟩:=DataW.trod_int Tryz.underlying3 g1
   simp only [List.cons.injEq,and_true] at e0 e1
   subst e0 e1
   exact ⟨(n0,n1),rfl⟩) hf
 refine ⟨_,l,hcs,⟨a,cap,rfl,h1,h2.imp id ?_⟩,hb⟩
 rintro ⟨g,o,rfl,h⟩
 refine ⟨g,o,rfl,fun j hj => ?_⟩
 obtain ⟨cs',_,_,rfl,_,h3⟩:=h j hj
 rw [rg_lt hj]
 exact ⟨h3 0 _ rfl,h3 1 _ rfl⟩
theorem row_read {fuel:Nat} {cs:List Value} {x:DataW H × List MemPlace} (hf:DataW.trod enc Tryz.prog W 0 (fun _=>true) true fuel 34 cs=some x):∃ v ls,cs=[v]∧SR W v ls∧ls.length≤Rows.uptoBulk x.1∧∀ l∈ls,l.length≤Rows.uptoBulk x.1:=by
 obtain ⟨a,cap,l,hcs,h1,_,hb,h2⟩:=slice_read Tryz.underlying34 cells40 (by decide) (fun cs d (l:List (Int × Int))=>∃ v,cs=[v]∧Rs W v l∧l.length≤Rows.uptoBulk d) (fun n cs x h=>by
  obtain ⟨v,l,e,h1,h2⟩:=set_read h
  exact ⟨l,v,e,h1,h2⟩) hf
 refine ⟨_,l,hcs,⟨a,cap,rfl,h1,h2.imp id ?_⟩,hb,?_⟩
 · rintro ⟨g,o,rfl,h⟩
   refine ⟨g,o,rfl,fun j hj => ?_⟩
   obtain ⟨cs',_,_,⟨v,rfl,hv,_⟩,_,h3⟩:=h j hj
   have:=h3 0 v rfl
   rw [Nat.mul_one] at this
   exact ⟨v,this,hv⟩
 · intro y hy
   rcases h2 with rfl | ⟨g,o,_,h⟩
   · cases hy
   · obtain ⟨j,hj,rfl⟩:=List.getElem_of_mem hy
     obtain ⟨cs',d,_,⟨v,_,_,h4⟩,h5,_⟩:=h j hj
     omega
instance:Inhabited Pc:=⟨⟨0,0,0,[]⟩⟩
theorem pieces_read {fuel:Nat} {cs:List Value} {x:DataW H × List MemPlace} (hf:DataW.trod enc Tryz.prog W 0 (fun _=>true) true fuel 58 cs=some x):∃ v ps,cs=[v]∧PR W v ps∧ps.length≤Rows.uptoBulk x.1∧∀ p∈ps,p.tl.length≤Rows.uptoBulk x.1:=by
 obtain ⟨a,cap,l,hcs,h1,_,hb,h2⟩:=slice_read Tryz.underlying58 cells64 (by decide) (fun cs d (p:Pc)=>∃ v,cs=[.int .i64 p.k,.int .i64 p.u,.int .i64 p.y,v]∧Rs W v p.tl∧p.tl.length≤Rows.uptoBulk d) (fun n cs x h=>by
  obtain ⟨xs,k,hk,hxy,hcl,hxl,hff⟩:=DataW.trod_struct Tryz.underlying64 h
  rw [cells64] at hcl
  match xs,hxl,cs,hcl with
  | [y0,y1,y2,y3],_,[v0,v1,v2,v3],_=>
   have g0:=hff 0 _ rfl
   have g1:=hff 1 _ rfl
   have g2:=hff 2 _ rfl
   have g3:=hff 3 _ rfl
   simp [cells3,cells40] at g0 g1 g2 g3
   obtain ⟨n0,e0,_,_⟩:=DataW.trod_int Tryz.underlying3 g0
   obtain ⟨n1,e1,_,_⟩:=DataW.trod_int Tryz.underlying3 g1
   obtain ⟨n2,e2,_,_⟩:=DataW.trod_int Tryz.underlying3 g2
   obtain ⟨v,l,e3,h3,h4⟩:=set_read g3
   simp only [List.cons.injEq,and_true] at e0 e1 e2 e3
   subst e0 e1 e2 e3
   refine ⟨⟨n0,n1,n2,l⟩,v3,rfl,h3,Nat.le_trans h4 ?_⟩
   rw [hxy]
   simp only [List.map_cons,List.map_nil,Rows.uptoBulk,Rows.uptoBulkAll]
   omega) hf
 refine ⟨_,l,hcs,⟨a,cap,rfl,h1,h2.imp id ?_⟩,hb,?_⟩
 · rintro ⟨g,o,rfl,h⟩
   refine ⟨g,o,rfl,fun j hj => ?_⟩
   obtain ⟨cs',_,_,⟨v,rfl,hv,_⟩,_,h3⟩:=h j hj
   exact ⟨v,h3 0 _ rfl,h3 1 _ rfl,h3 2 _ rfl,h3 3 _ rfl,hv⟩
 · intro y hy
   rcases h2 with rfl | ⟨g,o,_,h⟩
   · cases hy
   · obtain ⟨j,hj,rfl⟩:=List.getElem_of_mem hy
     obtain ⟨cs',d,_,⟨v,_,_,h4⟩,h5,_⟩:=h j hj
     omega
structure Small (r:Rl) (n:Nat):Prop where
 na:r.ante.length≤n
 sa:∀ l∈r.ante,l.length≤n
 nk:r.key.length≤n
 sk:∀ l∈r.key,l.length≤n
 np:r.post.length≤n
 sp:∀ l∈r.post,l.length≤n
 nr:r.res.length≤n
 sr:∀ p∈r.res,p.tl.length≤n
theorem Small.mono {r:Rl} {n m:Nat} (h:Small r n) (hm:n≤m):Small r m:=
 ⟨Nat.le_trans h.na hm,fun l hl=>Nat.le_trans (h.sa l hl) hm,Nat.le_trans h.nk hm,fun l hl=>Nat.le_trans (h.sk l hl) hm,Nat.le_trans h.np hm,fun l hl=>Nat.le_trans (h.sp l hl) hm,Nat.le_trans h.nr hm,fun l hl=>Nat.le_trans (h.sr l hl) hm⟩
theorem rule_read {fuel:Nat} {cs:List Value} {x:DataW H × List MemPlace} (hf:DataW.trod enc Tryz.prog W 0 (fun _=>true) true fuel 60 cs=some x):∃ av kv pv rv r,cs=[.bool r.bg,av,kv,pv,.bool r.en,rv,.int .i64 r.cu]∧RR W av kv pv rv r∧Small r (Rows.uptoBulk x.1):=by
 obtain ⟨xs,k,hk,hxy,hcl,hxl,hff⟩:=DataW.trod_struct Tryz.underlying60 hf
 rw [cells60] at hcl
 match xs,hxl,cs,hcl with
 | [y0,y1,y2,y3,y4,y5,y6],_,[v0,v1,v2,v3,v4,v5,v6],_=>
  have g0:=hff 0 _ rfl
  have g1:=hff 1 _ rfl
  have g2:=hff 2 _ rfl
  have g3:=hff 3 _ rfl
  have g4:=hff 4 _ rfl
  have g5:=hff 5 _ rfl
  have g6:=hff 6 _ rfl
  simp [cells3,cells4,cells34,cells58] at g0 g1 g2 g3 g4 g5 g6
  obtain ⟨b0,e0,_⟩:=DataW.trod_bool Tryz.underlying4 g0
  obtain ⟨w1,l1,e1,k1,m1,n1⟩:=row_read g1
  obtain ⟨w2,l2,e2,k2,m2,n2⟩:=row_read g2
  obtain ⟨w3,l3,e3,k3,m3,n3⟩:=row_read g3
  obtain ⟨b4,e4,_⟩:=DataW.trod_bool Tryz.underlying4 g4
  obtain ⟨w5,l5,e5,k5,m5,n5⟩:=pieces_read g5
  obtain ⟨c6,e6,_,_⟩:=DataW.trod_int Tryz.underlying3 g6
  simp only [List.cons.injEq,and_true] at e0 e1 e2 e3 e4 e5 e6
  subst e0 e1 e2 e3 e4 e5 e6
  have q:Rows.uptoBulk y1.1+Rows.uptoBulk y2.1+Rows.uptoBulk y3.1+Rows.uptoBulk y5.1≤Rows.uptoBulk x.1:=by
   rw [hxy]
   simp only [List.map_cons,List.map_nil,Rows.uptoBulk,Rows.uptoBulkAll]
   omega
  refine ⟨v1,v2,v3,v5,⟨b0,b4,c6,l1,l2,l3,l5⟩,rfl,⟨k1,k2,k3,k5⟩,⟨by show l1.length≤_;omega,fun l hl => ?_,by show l2.length≤_;omega,fun l hl => ?_,by show l3.length≤_;omega,fun l hl => ?_,by show l5.length≤_;omega,fun l hl => ?_⟩⟩
  · have:=n1 l hl;omega
  · have:=n2 l hl;omega
  · have:=n3 l hl;omega
  · have:=n5 l hl;omega
end
end Go.Proofs.YtcfcjljapamcoaaGreatDoor
