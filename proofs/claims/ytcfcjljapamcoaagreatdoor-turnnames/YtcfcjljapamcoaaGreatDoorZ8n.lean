/-
  Over 18, walked.
-/
import Derived.Test.YtcfcjljapamcoaaGreatDoorZ7n
import Derived.Test.YtcfcjljapamcoaaGreatDoorYin
namespace Go.Proofs
open Go.RowKit Go.Shelf
set_option maxRecDepth 100000
attribute [local go_sem] Oper.semAt_some
def ovU (rs:List Rl) (u:Int):Prop:=inL allU u=true∧¬ ((∃ l∈lsB rs,inL l u=true)∧¬ ∃ l∈lsG rs,inL l u=true)
def OvR (rs:List Rl) (s:List (Int × Int)) (n c:Int):Prop:=
 (c≠0∧TrnP rs n c∧s=[]) ∨
 (TrnP rs 0 0∧∃ t,Up t∧(∀ u,inL t u=true↔ovU rs u)∧(512<t.length∧s=[]∧n=rs.length∧c=194∨t.length≤512∧s=t∧n=0∧c=0))
def OveQ (w:World) (rs:List Rl) (e:Ending) (w':World):Prop:=∃ v n c s,e = .returned (.tuple #[v,.int .i64 n,.int .i64 c])∧OwnR w' w.heap.size v s∧Below w.heap.size w w'∧OvR rs s n c
theorem bdr_up {s:List (Int × Int)} (hU:Up s) (hu:∀ u,inL s u=true→0≤u∧u≤1114367):∀ x∈s,Bdr x:=fun x hx=>by
 obtain ⟨j,hj,rfl⟩:=List.mem_iff_getElem.1 hx
 have h1:=up_at hU hj
 rw [rg_lt hj] at h1
 have i1:=hu s[j].1 (List.any_eq_true.2 ⟨_,List.getElem_mem hj,by unfold inR;simp;omega⟩)
 have i2:=hu s[j].2 (List.any_eq_true.2 ⟨_,List.getElem_mem hj,by unfold inR;simp;omega⟩)
 unfold Bdr
 omega
theorem okS_in {l:List (Int × Int)} (h:okS l=true) {u:Int} (hu:inL l u=true):0≤u∧u≤1114367:=by
 have hg:=((validB_iff l).1 (okS_valid h)).2
 obtain ⟨x,hx,h1⟩:=List.any_eq_true.1 hu
 unfold inR at h1
 simp at h1
 have h2:=(hg.1 x hx).2
 omega
theorem allU_up:Up allU:=⟨by simp [allU],by simp [allU]⟩
theorem allU_in {u:Int} (h:inL allU u=true):0≤u∧u≤1114367:=by
 simp [inL,allU,inR] at h
 omega
theorem Bk.res {r:Rl} (h:Bk r):r.res≠[]:=fun e=>by
 have:=h.i0
 rw [img_len,e] at this
 simp at this
set_option maxHeartbeats 8000000 in
theorem over_any (rv:Value) (rs:List Rl) (w:World) (hT:Tab w) (h:PsR w rv rs):Calls Tryz.prog 18 #[.agg #[rv]] w (OveQ w rs):=by
 obtain ⟨ra,rc,rfl,hrc,hro⟩:=h
 obtain ⟨n,hn⟩:∃ n,rs.length=n:=⟨_,rfl⟩
 have hps:PsR w (.slice ra n rc) rs:=⟨ra,rc,by rw [hn],hrc,hro⟩
 rw [hn]
 obtain ⟨W1,hW1⟩:∃ W1,w.alloc (.cells #[.slice ra n rc] 24)=W1:=⟨_,rfl⟩
 have hb1:Below w.heap.size w W1:=by rw [←hW1];exact (Below.refl _ w).alloc (Nat.le_refl _) _
 have hk1:W1.heap[w.heap.size]? = some (.cells #[.slice ra n rc] 24 (0,0)):=by rw [←hW1];exact World.alloc_heap_new _ _
 have HT1:Hid (Tab W1):=fun j v hv=>cell_below (hT j v hv) hb1 (Nat.le_refl _)
 have HC:Hid (Calls Tryz.prog 37 #[.agg #[.slice ra n rc]] W1 (WaysQ W1 rs)):=ways_any _ rs W1 HT1.out (hps.below hb1 (Nat.le_refl _))
 have x0:W1.cell? ⟨w.heap.size,0,none⟩=some (.slice ra n rc):=by rw [cell_of hk1];rfl
 have HN:Hid (rs.length=n∧Below w.heap.size w W1∧(∀ W,Below W1.heap.size W1 W→W.cell? ⟨w.heap.size,0,none⟩=some (.slice ra n rc))):=⟨hn,hb1,fun W hb=>cell_below x0 hb (Nat.le_refl _)⟩
 clear hps hro hrc hT hn hb1 hk1
 go_enter Tryz.func18,Tryz.ntmps18
 go_wp2_with fail
 refine HC.out.mono ?_
 rintro e w2 ⟨v,i,c,rfl,hsl,hb2,hw⟩
 obtain ⟨va,vn,vc,rfl⟩:=hsl
 have HW:Hid (TrnP rs i c∧(c=0→WyR w2 (.slice va vn vc) rs)):=hw.trn
 have HB2:Hid (Below W1.heap.size W1 w2∧Below w.heap.size w w2):=⟨hb2,HN.out.2.1.trans (hb2.mono HN.out.2.1.size)⟩
 clear hb2 hw HC x0 hW1
 by_cases hc:c=0
 · have d0:(c != 0)=false:=by simp [hc]
   subst hc
   have HO:Hid (i=0∧(chkW rs).2=0∧(∀ r∈rs,Ok r∧Bk r)∧rs.length≤256):=HW.out.1.bk
   have HA:Hid (Calls Tryz.prog 50 #[] w2 fun e w'=>∃ v,e = .returned v∧OwnR w' w2.heap.size v allU∧Below w2.heap.size w2 w'):=setAny_any w2 fun j v hv=>cell_below (HT1.out j v hv) HB2.out.1 (Nat.le_refl _)
   have HL:Hid (∀ W,Below w2.heap.size w2 W→Calls Tryz.prog 51 #[.slice va vn vc] W (LosQ W rs)):=fun W hb=>lost_any W _ rs ((HW.out.2 rfl).below hb (Nat.le_refl _)) HO.out.2.2.2 (fun r hr=>(HO.out.2.2.1 r hr).1) (fun r hr=>(HO.out.2.2.1 r hr).2.res)
   go_wp2_with fail
   refine HA.out.mono ?_
   rintro e w3 ⟨v3,rfl,hO3,hb3⟩
   obtain ⟨a3,c3,e3,_⟩:=hO3.rs
   subst e3
   have H3:Hid (OwnR w3 w2.heap.size (.slice a3 allU.length c3) allU∧Below w2.heap.size w2 w3):=⟨hO3,hb3⟩
   obtain ⟨n3,hn3⟩:∃ n3,allU.length=n3:=⟨_,rfl⟩
   rw [hn3] at H3 ⊢
   clear hO3 hb3 hn3 HA
   go_wp2_with fail
   refine (HL.out w3 H3.out.2).mono ?_
   rintro e w4 ⟨v4,s4,rfl,hO4,hU4,hu4,hb4⟩
   obtain ⟨a4,c4,e4,_⟩:=hO4.rs
   subst e4
   have hin4:∀ u,inL s4 u=true→0≤u∧u≤1114367:=fun u h=>by
    obtain ⟨⟨l,hl,hx⟩,_⟩:=(hu4 u).1 h
    exact okS_in (lsB_ok (fun r hr=>(HO.out.2.2.1 r hr).1) (fun r hr=>(HO.out.2.2.1 r hr).2.res) l hl) hx
   have HS:Hid (Calls Tryz.prog 49 #[.slice a3 n3 c3,.slice a4 s4.length c4] w4 (LesQ w4 allU s4)):=
    less_any w4 _ _ allU s4 (H3.out.1.rs.below hb4 (Nat.le_refl _)) hO4.rs (by simp [allU]) (up_len hU4 hin4) (bdr_up allU_up fun u h=>allU_in h) (bdr_up hU4 hin4) allU_up hU4
   have H4:Hid ((∀ u,inL s4 u=true↔((∃ l∈lsB rs,inL l u=true)∧¬ ∃ l∈lsG rs,inL l u=true))∧Below w2.heap.size w2 w4):=⟨hu4,H3.out.2.trans (hb4.mono H3.out.2.size)⟩
   obtain ⟨n4,hn4⟩:∃ n4,s4.length=n4:=⟨_,rfl⟩
   rw [hn4] at HS ⊢
   clear hO4 hU4 hu4 hb4 hin4 hn4 HL
   go_wp2_with fail
   refine HS.out.mono ?_
   rintro e w5 ⟨v5,t,rfl,hO5,hU5,hu5,hb5⟩
   obtain ⟨a5,c5,e5,_⟩:=hO5.rs
   subst e5
   have HB5:Hid (Below w2.heap.size w2 w5∧Below w.heap.size w w5):=by
    have h1:=H4.out.2.trans (hb5.mono H4.out.2.size)
    exact ⟨h1,HB2.out.2.trans (h1.mono HB2.out.2.size)⟩
   have H5:Hid (Up t∧(∀ u,inL t u=true↔ovU rs u)∧OwnR w5 w.heap.size (.slice a5 t.length c5) t):=⟨hU5,fun u=>by
    rw [hu5,←Bool.not_eq_true,H4.out.1]
    rfl,hO5.le (Nat.le_trans HB2.out.2.size H4.out.2.size)⟩
   have hin5:∀ u,inL t u=true→0≤u∧u≤1114367:=fun u h=>allU_in ((hu5 u).1 h).1
   have hl5:=up_len hU5 hin5
   have HT0:Hid (TrnP rs 0 0):=by
    have h1:=HW.out.1
    rw [HO.out.1] at h1
    exact h1
   obtain ⟨m,hm⟩:∃ m,t.length=m:=⟨_,rfl⟩
   have HM:Hid (t.length=m):=hm
   rw [hm] at H5 hl5 ⊢
   have x5:=HN.out.2.2 w5 (HB2.out.1.trans (HB5.out.1.mono HB2.out.1.size))
   clear hO5 hU5 hu5 hb5 hin5 hm HS
   by_cases h5:512<m
   · have d5:(512:Int)<(m:Int):=by omega
     have HF:Hid (∀ W,Below w5.heap.size w5 W→OveQ w rs (.returned (.tuple #[.slice none 0 0,.int .i64 n,.int .i64 194])) W):=fun W hb=>⟨_,_,_,[],rfl,OwnR.nil _ _,HB5.out.2.trans (hb.mono HB5.out.2.size),.inr ⟨HT0.out,t,H5.out.1,H5.out.2.1,.inl ⟨by rw [HM.out];exact h5,rfl,by rw [HN.out.1],rfl⟩⟩⟩
     clear h5
     go_wp2
     go_region
     all_goals
      go_wp2
      go_ret3
      exact HF.out _ (by first | exact Below.refl _ _ | exact ((Grown.refl _).drew).below | exact ((Grown.refl _).drewN _).below)
   · have d5:¬ (512:Int)<(m:Int):=by omega
     have HF:Hid (OveQ w rs (.returned (.tuple #[.slice a5 m c5,.int .i64 0,.int .i64 0])) w5):=⟨_,_,_,t,rfl,H5.out.2.2,HB5.out.2,.inr ⟨HT0.out,t,H5.out.1,H5.out.2.1,.inr ⟨by have:=HM.out;omega,rfl,rfl,rfl⟩⟩⟩
     clear h5 x5
     go_wp2
     exact bodyPost_ret (v := .tuple #[.slice a5 m c5,.int .i64 0,.int .i64 0]) (by simp [results,Tryz.f18,go_sem]) rfl HF.out
 · have d0:(c != 0)=true:=by simp [hc]
   have HF:Hid (OveQ w rs (.returned (.tuple #[.slice none 0 0,.int .i64 i,.int .i64 c])) w2):=⟨_,_,_,[],rfl,OwnR.nil _ _,HB2.out.2,.inl ⟨hc,HW.out.1,rfl⟩⟩
   clear hc
   go_wp2
   exact bodyPost_ret (v := .tuple #[.slice none 0 0,.int .i64 i,.int .i64 c]) (by simp [results,Tryz.f18,go_sem]) rfl HF.out
end Go.Proofs
