/-
  A rule is read.
-/
import Derived.Shelf.Abstract
import Derived.WalkKit
import Derived.WalkSpells
import Derived.WalkLawsBesides
import Derived.BigQuiet
import Derived.Deep.QuietTactic
import Derived.Deep.LoopGhost
import Derived.Deep.DeepCutAuto
import Derived.WalkMore
import Derived.Test.YtknaoahokopplaaGreatDoorMgqk
namespace Go.Proofs
open Go.RowKit Go.Shelf
set_option maxRecDepth 100000
attribute [local go_sem] Oper.semAt_some
structure LO (w w2:World) (B:Nat) (R G:Nat) (r:List Tok) (e:Int) (m:ML):Prop where
 lc:LC w w2 R G r e
 own:LB w2 B m
 lt:w.heap.size<B
theorem LO.after {w w2 w3:World} {B R G:Nat} {r r':List Tok} {e:Int} {m:ML} (h:LO w w2 B R G r e m) (hm:Mv w2 w3 R none) (hr:RdX w3 R G r' e):LO w w3 B R G r' e m:=
 ⟨h.lc.after hm hr,h.own.mv hm (by have:=h.lc.Rlt;have:=h.lt;omega) (by simp),h.lt⟩
theorem LO.below {w w2 w3:World} {B R G:Nat} {r:List Tok} {e:Int} {m:ML} (h:LO w w2 B R G r e m) (hm:Below w2.heap.size w2 w3):LO w w3 B R G r e m:=h.after (Mv.of_below hm) (h.lc.rd.below hm (Nat.le_refl _))
theorem LO.put {w w2:World} {B R G:Nat} {r:List Tok} {e:Int} {m m':ML} (h:LO w w2 B R G r e m) (j:Nat) (v:Value) (hv:(ml1 m).toArray.setIfInBounds j v=(ml1 m').toArray):LO w (w2.setCell ⟨B,j,none⟩ v) B R G r e m':=⟨h.lc.put h.lt _ _,h.own.put j v hv,h.lt⟩
theorem RowsS.after {w w':World} {R b:Nat} {d:Nat} {x:Option Nat} {s:SL} {l:List It} (h:RowsS d w b x s l) (hm:Mv w w' R none) (hR:R<b):RowsS d w' b x s l:=h.step (Nat.le_refl _) (.inl rfl) (hm.keeps hR (.inl rfl))
theorem LO.afterY {w w2 w3:World} {B R G:Nat} {y:Option Nat} {r r':List Tok} {e:Int} {m:ML} (h:LO w w2 B R G r e m) (hm:Mv w2 w3 R y) (hr:RdX w3 R G r' e) (hy:∀ g,y=some g→B<g):LO w w3 B R G r' e m:=
 ⟨⟨h.lc.mv.trans hm (.inr fun g e=>by have:=hy g e;have:=h.lt;omega),hr,h.lc.res.mv hm (by have:=h.lc.Rlt;omega) (fun e=>by have:=hy _ e.symm;have:=h.lt;omega),h.lc.Rlt,h.lc.Glt⟩,h.own.mv hm (by have:=h.lc.Rlt;have:=h.lt;omega) (fun e=>by have:=hy _ e.symm;omega),h.lt⟩
theorem rowT_len {e:Int} {may:Nat} {it:List Tok→Res It} : ∀ {n:Nat} {ts:List Tok} {xs:List It} {r:List Tok},rowT e may it n ts = .ok xs r→xs.length≤n
 | 0,ts,xs,r,h=>by
  unfold rowT at h
  split at h
  · cases h
  · cases h;simp
 | n+1,ts,xs,r,h=>by
  unfold rowT at h
  split at h
  · cases hi:it ts with
    | no a c=>rw [hi] at h;cases h
    | ok x q=>
     rw [hi] at h
     simp only [Res.bind] at h
     cases hr:rowT e may it n q with
     | no a c=>rw [hr] at h;cases h
     | ok ys q2=>
      rw [hr] at h
      cases h
      have:=rowT_len hr
      simp;omega
  · cases h;simp
theorem RowsS.put {w:World} {B b:Nat} {d:Nat} {x:Option Nat} {s:SL} {l:List It} (h:RowsS d w b x s l) (hB:B<b) (j:Nat) (v:Value):RowsS d (w.setCell ⟨B,j,none⟩ v) b x s l:=h.step (Nat.le_refl _) (.inl rfl) (fun k _ h2 _=>heap_set_other _ (by omega) _ _)
theorem RowsS.up {d:Nat} {w:World} {b:Nat} {x:Option Nat} {s:SL} {l:List It} (h:RowsS d w b x s l):RowsS (d+1) w b x s l:=Rows.up h
theorem VR.rows {d b:Nat} {w:World} {v:Value} {l:List It} (h:VR d b w v l):∃ s:SL,v=s.v∧RowsS d w b none s l:=by
 obtain ⟨A,c,rfl,h⟩:=h
 exact ⟨⟨A,_,c⟩,rfl,h⟩
set_option maxHeartbeats 2000000 in
theorem rule_any (e:Int) (R G:Nat) (ts:List Tok) (w:World) (h:RdX w R G ts e):Calls Tryz.prog 102 #[.pointer (some ⟨R,0,none⟩)] w (Out R G e w none (VL 3 w.heap.size) (ruleT e ts)):=by
 obtain ⟨bg,ts1,hp⟩:∃ bg ts1,passT 15 ts=(bg,ts1):=⟨_,_,rfl⟩
 have HP:Hid (passT 15 ts=(bg,ts1)):=hp
 have HC:Hid (LC w (w.alloc (.cells (ml1 noL).toArray 44)) R G ts e):=LC.start h
 clear h hp
 go_enter Tryz.func102,Tryz.ntmps102
 go_wp2_with fail
 refine (pass_any _ R G 15 (by decide) ts e HC.out.rd).mono ?_
 rintro x w1 ⟨rfl,hR1,hm1⟩
 rw [HP.out] at hR1 ⊢
 have HC1:Hid (LC w w1 R G ts1 e):=HC.out.after hm1 hR1
 clear hm1 hR1 HC
 go_wp2_with fail
 have HO:Hid (LO w (w1.alloc (.cells (ml1 ⟨2,0,⟨#[]⟩,bg,false,noS,noS,noS,noS,0⟩).toArray 44)) w1.heap.size R G ts1 e ⟨2,0,⟨#[]⟩,bg,false,noS,noS,noS,noS,0⟩):=⟨HC1.out.alloc _,LB.new _ _,HC1.out.res.lt⟩
 refine (sides_any e R G ts1 _ HO.out.lc.rd).mono ?_
 rintro x w2 ⟨hm2,hx⟩
 generalize hS:sidesT e ts1=S at hx
 cases S with
 | no a c=>
  simp only at hx
  subst hx
  refine ⟨rfl,?_⟩
  rw [show ruleT e ts = .no a c by simp [ruleT,HP.out,hS,Res.bind]]
  exact ⟨HO.out.lc.mv.and hm2,rfl⟩
 | ok x r1=>
  obtain ⟨v,rfl,hR2,hV⟩:=hx
  obtain ⟨s0,rfl,hs0⟩:=hV.rows
  have hB0:w.heap.size<w1.heap.size:=HO.out.lt
  have hs0':RowsS 3 w2 (w1.heap.size+1) none s0 x:=(hs0.step (by simp) (.inl rfl) (fun _ _ _ _=>rfl)).up
  clear hs0
  generalize w1.heap.size=B at *
  have hO2:=HO.out.after hm2 hR2
  have HO2:Hid (LO w (w2.setCell ⟨B,6,none⟩ s0.v) B R G r1 e ⟨2,0,⟨#[]⟩,bg,false,noS,s0,noS,noS,0⟩∧RowsS 3 (w2.setCell ⟨B,6,none⟩ s0.v) (B+1) none s0 x):=⟨hO2.put 6 _ rfl,hs0'.put (by omega) _ _⟩
  have HS:Hid (sidesT e ts1 = .ok x r1):=hS
  obtain ⟨c0,c1,c2,c3,c4,c5,c6,c7,c8,c9⟩:=(hO2.own).cells
  obtain ⟨f0,f1,f2,f3,f4,f5,f6,f7,f8,f9⟩:=(hO2.own).frozen
  clear hO2 hs0' hV hm2 hR2 hS HC1 HO
  go_upto_region 3 with fail
  clear c0 c1 c2 c3 c4 c5 c6 c7 c8 c9 f0 f1 f2 f3 f4 f5 f6 f7 f8 f9
  obtain ⟨W,hW⟩:∃ W,w2.setCell ⟨B,6,none⟩ s0.v=W:=⟨_,rfl⟩
  simp only [hW] at HO2 ⊢
  clear hW
  have hO:=HO2.out.1
  go_cut [16] (fun s16 wx=>s16 = .bool (bg || (nxt r1 == 12))∧Hid (LO w wx B R G r1 e ⟨2,0,⟨#[]⟩,bg,false,noS,s0,noS,noS,0⟩∧RowsS 3 wx (B+1) none s0 x))
  case first=>
   obtain ⟨c0,c1,c2,c3,c4,c5,c6,c7,c8,c9⟩:=(hO.own).cells
   clear hO
   cases bg with
   | true=>
    go_wp2_with fail
    go_meet
    exact ⟨rfl,HO2⟩
   | false=>
    go_wp2_with (go_at_call 53;refine (next_any _ R G r1 e HO2.out.1.lc.rd).mono ?_;rintro x w3 ⟨rfl,hb3⟩)
    go_meet
    exact ⟨rfl,HO2.out.1.below hb3,HO2.out.2.step (Nat.le_refl _) (.inl rfl) (fun k h1 _ _=>hb3.block k h1)⟩
  case rest=>
   obtain ⟨rfl,hc⟩:=hcut
   clear HO2 hO
   go_upto_if 16 with fail
   go_cut [] (fun wx=>Hid (∃ a k r2 s1 s2,anteT e bg x r1 = .ok (a,k) r2∧LO w wx B R G r2 e ⟨2,0,⟨#[]⟩,bg,false,s1,s2,noS,noS,0⟩∧RowsS 3 wx (B+1) none s1 a∧RowsS 3 wx (B+1) none s2 k))
   case first=>
    cases hcd:(bg || (nxt r1 == 12)) with
    | false=>
     go_wp2_with fail
     go_meet
     exact ⟨[],x,r1,noS,s0,by simp [anteT,hcd],hc.out.1,RowsS.nil _ _ _ _,hc.out.2⟩
    | true=>
     go_wp2_with fail
     refine (want_any _ R G 12 (by decide) r1 e hc.out.1.lc.rd).mono ?_
     rintro y w3 ⟨hm3,hx⟩
     generalize hW:wantT e 12 r1=W at hx
     cases W with
     | no a c=>
      simp only at hx
      subst hx
      refine ⟨rfl,?_⟩
      rw [show ruleT e ts = .no a c by simp [ruleT,HP.out,HS.out,anteT,hcd,hW,Res.bind]]
      exact ⟨hc.out.1.lc.mv.and hm3,rfl⟩
     | ok u q1=>
      obtain ⟨v,rfl,hR3,rfl⟩:=hx
      have hO3:=hc.out.1.after hm3 hR3
      have hRB:R<B+1:=by have:=hO3.lc.Rlt;omega
      have hs3:=hc.out.2.after hm3 hRB
      have HW:Hid (wantT e 12 r1 = .ok u q1):=hW
      have HO3:Hid (LO w (w3.setCell ⟨B,5,none⟩ s0.v) B R G q1 e ⟨2,0,⟨#[]⟩,bg,false,s0,s0,noS,noS,0⟩∧RowsS 3 (w3.setCell ⟨B,5,none⟩ s0.v) (B+1) none s0 x):=⟨hO3.put 5 _ rfl,hs3.put (by omega) _ _⟩
      obtain ⟨c0,c1,c2,c3,c4,c5,c6,c7,c8,c9⟩:=(hO3.own).cells
      obtain ⟨f0,f1,f2,f3,f4,f5,f6,f7,f8,f9⟩:=(hO3.own).frozen
      clear hO3 hs3 hm3 hR3 hW hc
      go_wp2_with fail
      refine (sides_any e R G q1 _ HO3.out.1.lc.rd).mono ?_
      rintro y w4 ⟨hm4,hx⟩
      clear c0 c1 c2 c3 c4 c5 c6 c7 c8 c9 f0 f1 f2 f3 f4 f5 f6 f7 f8 f9
      generalize hS:sidesT e q1=S at hx
      cases S with
      | no a c=>
       simp only at hx
       subst hx
       refine ⟨rfl,?_⟩
       rw [show ruleT e ts = .no a c by simp [ruleT,HP.out,HS.out,anteT,hcd,HW.out,hS,Res.bind]]
       exact ⟨HO3.out.1.lc.mv.and hm4,rfl⟩
      | ok k q2=>
       obtain ⟨v,rfl,hR4,hV⟩:=hx
       obtain ⟨s5,rfl,hs5⟩:=hV.rows
       have hs5':RowsS 3 w4 (B+1) none s5 k:=(hs5.step (by have:=HO3.out.1.own.lt;omega) (.inl rfl) (fun _ _ _ _=>rfl)).up
       have hO4:=HO3.out.1.after hm4 hR4
       have hs4:=HO3.out.2.after hm4 hRB
       have HO4:Hid (LO w (w4.setCell ⟨B,6,none⟩ s5.v) B R G q2 e ⟨2,0,⟨#[]⟩,bg,false,s0,s5,noS,noS,0⟩∧RowsS 3 (w4.setCell ⟨B,6,none⟩ s5.v) (B+1) none s0 x∧RowsS 3 (w4.setCell ⟨B,6,none⟩ s5.v) (B+1) none s5 k∧sidesT e q1 = .ok k q2):=⟨hO4.put 6 _ rfl,hs4.put (by omega) _ _,hs5'.put (by omega) _ _,hS⟩
       obtain ⟨c0,c1,c2,c3,c4,c5,c6,c7,c8,c9⟩:=(hO4.own).cells
       obtain ⟨f0,f1,f2,f3,f4,f5,f6,f7,f8,f9⟩:=(hO4.own).frozen
       clear hO4 hs4 hs5 hs5' hm4 hR4 hS hV HO3
       go_wp2_with fail
       go_meet
       exact ⟨x,k,q2,s0,s5,by simp [anteT,hcd,HW.out,HO4.out.2.2.2,Res.bind],HO4.out.1,HO4.out.2.1,HO4.out.2.2.1⟩
   case rest=>
    obtain ⟨a,k,r2,s1,s2,hA,hO,hs1,hs2⟩:=hcut.out
    have HA:Hid (anteT e bg x r1 = .ok (a,k) r2):=hA
    have HO:Hid (LO w wc B R G r2 e ⟨2,0,⟨#[]⟩,bg,false,s1,s2,noS,noS,0⟩∧RowsS 3 wc (B+1) none s1 a∧RowsS 3 wc (B+1) none s2 k):=⟨hO,hs1,hs2⟩
    have hRB:R<B+1:=by have:=hO.lc.Rlt;omega
    clear hcut hc hA hO hs1 hs2
    go_wp2_with fail
    refine (pass_any _ R G 13 (by decide) r2 e HO.out.1.lc.rd).mono ?_
    rintro y w3 ⟨rfl,hR3,hm3⟩
    have HO3:Hid (LO w w3 B R G (passT 13 r2).2 e ⟨2,0,⟨#[]⟩,bg,false,s1,s2,noS,noS,0⟩∧RowsS 3 w3 (B+1) none s1 a∧RowsS 3 w3 (B+1) none s2 k):=⟨HO.out.1.after hm3 hR3,HO.out.2.1.after hm3 hRB,HO.out.2.2.after hm3 hRB⟩
    clear hR3 hm3 HO
    go_upto_if 26 with fail
    go_cut [] (fun wx=>Hid (∃ po en r3 s3,postT e r2 = .ok (po,en) r3∧LO w wx B R G r3 e ⟨2,0,⟨#[]⟩,bg,en,s1,s2,s3,noS,0⟩∧RowsS 3 wx (B+1) none s1 a∧RowsS 3 wx (B+1) none s2 k∧RowsS 3 wx (B+1) none s3 po))
    case first=>
     by_cases h13:nxt r2=13
     · rw [show passT 13 r2=(true,r2.tail) by simp [passT,h13]] at HO3 ⊢
       simp only at HO3 ⊢
       have H13:Hid (nxt r2=13):=h13
       clear h13
       go_wp2_with fail
       refine (sides_any e R G r2.tail _ HO3.out.1.lc.rd).mono ?_
       rintro y w4 ⟨hm4,hx⟩
       generalize hS:sidesT e r2.tail=S at hx
       cases S with
       | no ea ec=>
        simp only at hx
        subst hx
        refine ⟨rfl,?_⟩
        rw [show ruleT e ts = .no ea ec by simp [ruleT,HP.out,HS.out,HA.out,postT,H13.out,hS,Res.bind]]
        exact ⟨HO3.out.1.lc.mv.and hm4,rfl⟩
       | ok po q2=>
        obtain ⟨v,rfl,hR4,hV⟩:=hx
        obtain ⟨s5,rfl,hs5⟩:=hV.rows
        have hs5':RowsS 3 w4 (B+1) none s5 po:=(hs5.step (by have:=HO3.out.1.own.lt;omega) (.inl rfl) (fun _ _ _ _=>rfl)).up
        have hO4:=HO3.out.1.after hm4 hR4
        have HO4:Hid (LO w (w4.setCell ⟨B,7,none⟩ s5.v) B R G q2 e ⟨2,0,⟨#[]⟩,bg,false,s1,s2,s5,noS,0⟩∧RowsS 3 (w4.setCell ⟨B,7,none⟩ s5.v) (B+1) none s1 a∧RowsS 3 (w4.setCell ⟨B,7,none⟩ s5.v) (B+1) none s2 k∧RowsS 3 (w4.setCell ⟨B,7,none⟩ s5.v) (B+1) none s5 po∧sidesT e r2.tail = .ok po q2):=⟨hO4.put 7 _ rfl,(HO3.out.2.1.after hm4 hRB).put (by omega) _ _,(HO3.out.2.2.after hm4 hRB).put (by omega) _ _,hs5'.put (by omega) _ _,hS⟩
        obtain ⟨c0,c1,c2,c3,c4,c5,c6,c7,c8,c9⟩:=(hO4.own).cells
        obtain ⟨f0,f1,f2,f3,f4,f5,f6,f7,f8,f9⟩:=(hO4.own).frozen
        clear hO4 hs5 hs5' hm4 hR4 hS hV HO3
        go_wp2_with fail
        refine (pass_any _ R G 16 (by decide) q2 e HO4.out.1.lc.rd).mono ?_
        rintro y w5 ⟨rfl,hR5,hm5⟩
        clear c0 c1 c2 c3 c4 c5 c6 c7 c8 c9 f0 f1 f2 f3 f4 f5 f6 f7 f8 f9
        have hO5:=HO4.out.1.after hm5 hR5
        have HO5:Hid (LO w (w5.setCell ⟨B,4,none⟩ (.bool (passT 16 q2).1)) B R G (passT 16 q2).2 e ⟨2,0,⟨#[]⟩,bg,(passT 16 q2).1,s1,s2,s5,noS,0⟩∧RowsS 3 (w5.setCell ⟨B,4,none⟩ (.bool (passT 16 q2).1)) (B+1) none s1 a∧RowsS 3 (w5.setCell ⟨B,4,none⟩ (.bool (passT 16 q2).1)) (B+1) none s2 k∧RowsS 3 (w5.setCell ⟨B,4,none⟩ (.bool (passT 16 q2).1)) (B+1) none s5 po):=⟨hO5.put 4 _ rfl,(HO4.out.2.1.after hm5 hRB).put (by omega) _ _,(HO4.out.2.2.1.after hm5 hRB).put (by omega) _ _,(HO4.out.2.2.2.1.after hm5 hRB).put (by omega) _ _⟩
        obtain ⟨c0,c1,c2,c3,c4,c5,c6,c7,c8,c9⟩:=(hO5.own).cells
        obtain ⟨f0,f1,f2,f3,f4,f5,f6,f7,f8,f9⟩:=(hO5.own).frozen
        have H4:Hid (sidesT e r2.tail = .ok po q2):=HO4.out.2.2.2.2
        clear hO5 hR5 hm5 HO4
        go_wp2_with fail
        go_meet
        exact ⟨po,_,_,s5,by simp [postT,H13.out,H4.out,Res.bind],HO5.out.1,HO5.out.2.1,HO5.out.2.2.1,HO5.out.2.2.2⟩
     · rw [show passT 13 r2=(false,r2) by simp [passT,h13]] at HO3 ⊢
       simp only at HO3 ⊢
       have H13:Hid (nxt r2≠13):=h13
       clear h13
       go_wp2_with fail
       go_meet
       exact ⟨[],false,r2,noS,by simp [postT,H13.out],HO3.out.1,HO3.out.2.1,HO3.out.2.2,RowsS.nil _ _ _ _⟩
    case rest=>
     obtain ⟨po,en,r3,s3,hA,hO,hs1,hs2,hs3⟩:=hcut.out
     have HB:Hid (postT e r2 = .ok (po,en) r3):=hA
     have HO:Hid (LO w wc B R G r3 e ⟨2,0,⟨#[]⟩,bg,en,s1,s2,s3,noS,0⟩∧RowsS 3 wc (B+1) none s1 a∧RowsS 3 wc (B+1) none s2 k∧RowsS 3 wc (B+1) none s3 po):=⟨hO,hs1,hs2,hs3⟩
     clear hcut hA hO hs1 hs2 hs3 HO3
     go_wp2_with fail
     refine (want_any _ R G 10 (by decide) r3 e HO.out.1.lc.rd).mono ?_
     rintro y w4 ⟨hm4,hx⟩
     generalize hW:wantT e 10 r3=W at hx
     cases W with
     | no ea ec=>
      simp only at hx
      subst hx
      refine ⟨rfl,?_⟩
      rw [show ruleT e ts = .no ea ec by simp [ruleT,HP.out,HS.out,HA.out,HB.out,hW,Res.bind]]
      exact ⟨HO.out.1.lc.mv.and hm4,rfl⟩
     | ok u r4=>
      obtain ⟨v,rfl,hR4,rfl⟩:=hx
      have HW:Hid (wantT e 10 r3 = .ok u r4):=hW
      have HO4:Hid (LO w w4 B R G r4 e ⟨2,0,⟨#[]⟩,bg,en,s1,s2,s3,noS,0⟩∧RowsS 3 w4 (B+1) none s1 a∧RowsS 3 w4 (B+1) none s2 k∧RowsS 3 w4 (B+1) none s3 po):=⟨HO.out.1.after hm4 hR4,HO.out.2.1.after hm4 hRB,HO.out.2.2.1.after hm4 hRB,HO.out.2.2.2.after hm4 hRB⟩
      clear hW hm4 hR4 HO
      go_wp2_with fail
      have hRw:=HO4.out.1.lc.rd.lt
      have hBw:B<w4.heap.size:=HO4.out.1.own.lt
      refine (row_any 3 386 (.inr (.inr (.inr rfl))) (pieceT e) e R G w4.heap.size hRw.1 hRw.2 (piece_any e R G) 512 r4 w4 (.slice none 0 0) [] HO4.out.1.lc.rd (OwnI.nil _ _ _) rfl (Nat.le_refl _)).mono ?_
      rintro y w5 ⟨hm5,hx⟩
      generalize hS5:rowT e 386 (pieceT e) 512 r4=S5 at hx
      cases S5 with
      | no ea ec=>
       simp only at hx
       subst hx
       refine ⟨rfl,?_⟩
       rw [show ruleT e ts = .no ea ec by simp [ruleT,HP.out,HS.out,HA.out,HB.out,HW.out,tailT,resultT,hS5,Res.bind]]
       exact ⟨HO4.out.1.lc.mv.and hm5,rfl⟩
      | ok xs r5=>
       obtain ⟨A,c,rfl,hR5,hI5⟩:=hx
       simp only [List.nil_append] at hI5
       have hlen:=rowT_len hS5
       have hblk:∀ g,(Value.slice A xs.length c).ownBlock=some g→w4.heap.size≤g:=fun g e=>(hI5.lt g e).1
       have hst:∀ {s:SL} {l:List It},RowsS 3 w4 (B+1) none s l→RowsS 3 w5 (B+1) (Value.slice A xs.length c).ownBlock s l:=fun h=>h.step (Nat.le_refl _) (.inr (.inr fun g e => .inl (hblk g e))) (hm5.keeps hRB (.inl rfl))
       have hO5:=HO4.out.1.after hm5 hR5
       have hO6:=(hO5.put (m':=⟨2,0,⟨#[]⟩,bg,en,s1,s2,s3,⟨A,xs.length,c⟩,0⟩) 8 (.slice A xs.length c) rfl).put (m':=⟨2,0,⟨#[]⟩,bg,en,s1,s2,s3,⟨A,xs.length,c⟩,xs.length⟩) 9 (.int .i64 xs.length) rfl
       obtain ⟨W6,hW6⟩:∃ W6,(w5.setCell ⟨B,8,none⟩ (.slice A xs.length c)).setCell ⟨B,9,none⟩ (.int .i64 xs.length)=W6:=⟨_,rfl⟩
       have hI6:OwnI 3 W6 w4.heap.size (.slice A xs.length c) xs:=by
        rw [←hW6]
        exact (hI5.step (fun k h1 h2=>heap_set_other _ (by omega) _ _)).step (fun k h1 h2=>heap_set_other _ (by omega) _ _)
       have HX:Hid (LO w W6 B R G r5 e ⟨2,0,⟨#[]⟩,bg,en,s1,s2,s3,⟨A,xs.length,c⟩,xs.length⟩∧RowsS 3 W6 (B+1) (Value.slice A xs.length c).ownBlock s1 a∧RowsS 3 W6 (B+1) (Value.slice A xs.length c).ownBlock s2 k∧RowsS 3 W6 (B+1) (Value.slice A xs.length c).ownBlock s3 po):=by
        rw [←hW6]
        exact ⟨hO6,((hst HO4.out.2.1).put (by omega) _ _).put (by omega) _ _,((hst HO4.out.2.2.1).put (by omega) _ _).put (by omega) _ _,((hst HO4.out.2.2.2).put (by omega) _ _).put (by omega) _ _⟩
       have HI:Hid (OwnI 3 W6 w4.heap.size (.slice A xs.length c) xs∧(∀ g,(Value.slice A xs.length c).ownBlock=some g→w4.heap.size≤g)∧rowT e 386 (pieceT e) 512 r4 = .ok xs r5∧B<w4.heap.size∧R<w4.heap.size∧G<w4.heap.size∧w4.heap.size≤W6.heap.size):=⟨hI6,hblk,hS5,hBw,hRw.1,hRw.2,by rw [←hW6];simpa using hm5.size⟩
       obtain ⟨c0,c1,c2,c3,c4,c5,c6,c7,c8,c9⟩:=(hO5.own).cells
       obtain ⟨f0,f1,f2,f3,f4,f5,f6,f7,f8,f9⟩:=(hO5.own).frozen
       clear hO5 hO6 hm5 hR5 hI5 hI6 hst hblk hS5 HO4 hRw hBw
       go_wp2_with fail
       clear hW6 c0 c1 c2 c3 c4 c5 c6 c7 c8 c9 f0 f1 f2 f3 f4 f5 f6 f7 f8 f9
       refine (pass_any _ R G 14 (by decide) r5 e HX.out.1.lc.rd).mono ?_
       rintro y w7 ⟨rfl,hR7,hm7⟩
       by_cases h14:nxt r5=14
       · rw [show passT 14 r5=(true,r5.tail) by simp [passT,h14]] at hR7 ⊢
         simp only at hR7 ⊢
         have hO7:=HX.out.1.after hm7 hR7
         have HX7:Hid (LO w w7 B R G r5.tail e ⟨2,0,⟨#[]⟩,bg,en,s1,s2,s3,⟨A,xs.length,c⟩,xs.length⟩∧RowsS 3 w7 (B+1) (Value.slice A xs.length c).ownBlock s1 a∧RowsS 3 w7 (B+1) (Value.slice A xs.length c).ownBlock s2 k∧RowsS 3 w7 (B+1) (Value.slice A xs.length c).ownBlock s3 po∧OwnI 3 w7 w4.heap.size (.slice A xs.length c) xs∧w4.heap.size≤w7.heap.size):=⟨hO7,HX.out.2.1.after hm7 hRB,HX.out.2.2.1.after hm7 hRB,HX.out.2.2.2.after hm7 hRB,HI.out.1.step (fun k h1 h2=>hm7.block k h1 (by have:=HI.out.2.2.2.2.1;omega) (by simp)),by have:=hm7.size;have:=HI.out.2.2.2.2.2.2;omega⟩
         have H14:Hid (nxt r5=14):=h14
         obtain ⟨c0,c1,c2,c3,c4,c5,c6,c7,c8,c9⟩:=(hO7.own).cells
         clear hO7 h14 hm7 hR7 HX
         go_wp2_with fail
         refine (row_any 3 386 (.inr (.inr (.inr rfl))) (pieceT e) e R G w4.heap.size HI.out.2.2.2.2.1 HI.out.2.2.2.2.2.1 (piece_any e R G) (512 - xs.length) r5.tail w7 (.slice A xs.length c) xs HX7.out.1.lc.rd HX7.out.2.2.2.2.1 (by omega) HX7.out.2.2.2.2.2).mono ?_
         rintro y w8 ⟨hm8,hx⟩
         clear c0 c1 c2 c3 c4 c5 c6 c7 c8 c9
         have hyB:∀ g,(Value.slice A xs.length c).ownBlock=some g→B<g:=fun g e=>by have:=HI.out.2.1 g e;have:=HI.out.2.2.2.1;omega
         generalize hS8:rowT e 386 (pieceT e) (512 - xs.length) r5.tail=S8 at hx
         cases S8 with
         | no ea ec=>
          simp only at hx
          subst hx
          refine ⟨rfl,?_⟩
          rw [show ruleT e ts = .no ea ec by simp [ruleT,HP.out,HS.out,HA.out,HB.out,HW.out,tailT,resultT,HI.out.2.2.1,H14.out,hS8,Res.bind]]
          exact ⟨HX7.out.1.lc.mv.trans hm8 (.inr fun g e=>by have:=hyB g e;omega),rfl⟩
         | ok ys r6=>
          obtain ⟨Ae,ce,rfl,hR8,hI8⟩:=hx
          have hO8:=HX7.out.1.afterY hm8 hR8 hyB
          have hst:∀ {s:SL} {l:List It},RowsS 3 w7 (B+1) (Value.slice A xs.length c).ownBlock s l→RowsS 3 w8 (B+1) none s l:=fun h=>h.step (Nat.le_refl _) (.inr (.inl rfl)) (hm8.keeps hRB (.inr (.inl rfl)))
          obtain ⟨N,hN⟩:∃ N,(xs++ys).length=N:=⟨_,rfl⟩
          rw [hN] at hI8 ⊢
          have hO9:=hO8.put (m':=⟨2,0,⟨#[]⟩,bg,en,s1,s2,s3,⟨Ae,N,ce⟩,xs.length⟩) 8 (.slice Ae N ce) rfl
          have HX9:Hid (LO w (w8.setCell ⟨B,8,none⟩ (.slice Ae N ce)) B R G r6 e ⟨2,0,⟨#[]⟩,bg,en,s1,s2,s3,⟨Ae,N,ce⟩,xs.length⟩∧RowsS 3 (w8.setCell ⟨B,8,none⟩ (.slice Ae N ce)) (B+1) none s1 a∧RowsS 3 (w8.setCell ⟨B,8,none⟩ (.slice Ae N ce)) (B+1) none s2 k∧RowsS 3 (w8.setCell ⟨B,8,none⟩ (.slice Ae N ce)) (B+1) none s3 po∧OwnI 3 (w8.setCell ⟨B,8,none⟩ (.slice Ae N ce)) w4.heap.size (.slice Ae N ce) (xs++ys)∧rowT e 386 (pieceT e) (512 - xs.length) r5.tail = .ok ys r6):=⟨hO9,(hst HX7.out.2.1).put (by omega) _ _,(hst HX7.out.2.2.1).put (by omega) _ _,(hst HX7.out.2.2.2.1).put (by omega) _ _,hI8.step (fun k h1 h2=>heap_set_other _ (by have:=HI.out.2.2.2.1;omega) _ _),hS8⟩
          have hne:B≠w.heap.size:=by omega
          have hne2:w.heap.size≠B:=by omega
          obtain ⟨c0,c1,c2,c3,c4,c5,c6,c7,c8,c9⟩:=(hO8.own).cells
          obtain ⟨f0,f1,f2,f3,f4,f5,f6,f7,f8,f9⟩:=(hO8.own).frozen
          obtain ⟨ss0,ss1,ss2,ss3,ss4,ss5,ss6,ss7,ss8,ss9⟩:=(hO8.lc.res).cells
          obtain ⟨z0,z1,z2,z3,z4,z5,z6,z7,z8,z9⟩:=(hO8.lc.res).frozen
          clear hO8 hO9 hst hI8 hS8 hm8 hR8 HX7 hyB
          go_wp2
          have hnx:∀ {s:SL} {l:List It},RowsS 3 (w8.setCell ⟨B,8,none⟩ (.slice Ae N ce)) (B+1) none s l→RowsS 3 (w8.setCell ⟨B,8,none⟩ (.slice Ae N ce)) (w.heap.size+1) none s l:=fun h=>h.step (by omega) (.inl rfl) (fun _ _ _ _=>rfl)
          have hres:RowsS 3 (w8.setCell ⟨B,8,none⟩ (.slice Ae N ce)) (w.heap.size+1) none ⟨Ae,N,ce⟩ (xs++ys):=Rows.step (by have:=HI.out.2.2.2.1;omega) (.inl rfl) (fun _ _ _ _=>rfl) HX9.out.2.2.2.2.1.rows
          obtain ⟨K1,K2⟩:=HX9.out.1.lc.tell (d:=3) (m:=⟨2,0,⟨#[]⟩,bg,en,s1,s2,s3,⟨Ae,N,ce⟩,xs.length⟩) (l:=⟨2,0,⟨#[]⟩,bg,en,a,k,po,xs++ys,xs.length⟩) ⟨⟨rfl,rfl,rfl,rfl,rfl,rfl⟩,hnx HX9.out.2.1,hnx HX9.out.2.2.1,hnx HX9.out.2.2.2.1,hres⟩
          refine ret_ln rfl rfl K1 ?_
          rw [show ruleT e ts = .ok ⟨2,0,⟨#[]⟩,bg,en,a,k,po,xs++ys,xs.length⟩ r6 by simp [ruleT,HP.out,HS.out,HA.out,HB.out,HW.out,tailT,resultT,HI.out.2.2.1,H14.out,HX9.out.2.2.2.2.2,Res.bind]]
          exact K2
       · rw [show passT 14 r5=(false,r5) by simp [passT,h14]] at hR7 ⊢
         simp only at hR7 ⊢
         have hO7:=HX.out.1.after hm7 hR7
         have HX7:Hid (LO w w7 B R G r5 e ⟨2,0,⟨#[]⟩,bg,en,s1,s2,s3,⟨A,xs.length,c⟩,xs.length⟩∧RowsS 3 w7 (B+1) (Value.slice A xs.length c).ownBlock s1 a∧RowsS 3 w7 (B+1) (Value.slice A xs.length c).ownBlock s2 k∧RowsS 3 w7 (B+1) (Value.slice A xs.length c).ownBlock s3 po∧OwnI 3 w7 w4.heap.size (.slice A xs.length c) xs):=⟨hO7,HX.out.2.1.after hm7 hRB,HX.out.2.2.1.after hm7 hRB,HX.out.2.2.2.after hm7 hRB,HI.out.1.step (fun k h1 h2=>hm7.block k h1 (by have:=HI.out.2.2.2.2.1;omega) (by simp))⟩
         have H14:Hid (nxt r5≠14):=h14
         obtain ⟨c0,c1,c2,c3,c4,c5,c6,c7,c8,c9⟩:=(hO7.own).cells
         obtain ⟨ss0,ss1,ss2,ss3,ss4,ss5,ss6,ss7,ss8,ss9⟩:=(hO7.lc.res).cells
         obtain ⟨z0,z1,z2,z3,z4,z5,z6,z7,z8,z9⟩:=(hO7.lc.res).frozen
         clear hO7 h14 hm7 hR7 HX
         go_wp2
         have hnx:∀ {s:SL} {l:List It},RowsS 3 w7 (B+1) (Value.slice A xs.length c).ownBlock s l→RowsS 3 w7 (w.heap.size+1) none s l:=fun h=>h.step (by omega) (.inr (.inl rfl)) (fun _ _ _ _=>rfl)
         have hres:RowsS 3 w7 (w.heap.size+1) none ⟨A,xs.length,c⟩ xs:=Rows.step (by have:=HI.out.2.2.2.1;omega) (.inl rfl) (fun _ _ _ _=>rfl) HX7.out.2.2.2.2.rows
         obtain ⟨K1,K2⟩:=HX7.out.1.lc.tell (d:=3) (m:=⟨2,0,⟨#[]⟩,bg,en,s1,s2,s3,⟨A,xs.length,c⟩,xs.length⟩) (l:=⟨2,0,⟨#[]⟩,bg,en,a,k,po,xs,xs.length⟩) ⟨⟨rfl,rfl,rfl,rfl,rfl,rfl⟩,hnx HX7.out.2.1,hnx HX7.out.2.2.1,hnx HX7.out.2.2.2.1,hres⟩
         refine ret_ln rfl rfl K1 ?_
         rw [show ruleT e ts = .ok ⟨2,0,⟨#[]⟩,bg,en,a,k,po,xs,xs.length⟩ r5 by simp [ruleT,HP.out,HS.out,HA.out,HB.out,HW.out,tailT,resultT,HI.out.2.2.1,H14.out,Res.bind]]
         exact K2
end Go.Proofs
