/-
  Several texts in one (Jjk Jmk).
-/
import Derived.Shelf.Abstract
import Derived.WalkKit
import Derived.WalkSpells
import Derived.WalkLawsBesides
import Derived.BigQuiet
import Derived.Deep.QuietTactic
import Derived.Deep.LoopGhost
import Derived.Deep.DeepCutAuto
import Derived.Deep.CutBlock
import Derived.WalkMore
import Derived.Test.YtknaoahokopplaaGreatDoorJik
import Derived.Lib.OthersKept
import Derived.Maps.AppendAt
import Derived.Lib.SmallJoins
namespace Go.Proofs
open Go.RowKit Go.Shelf
set_option maxRecDepth 100000
attribute [local go_sem] Oper.semAt_some
theorem LO.tells {w w2 w3:World} {B R G:Nat} {r r':List Tok} {e:Int} {m m':ML} {l:Ln} {d:Nat} (h:LO w w2 B R G r e m) (hm:Mv w2 w3 R none) (hr:RdX w3 R G r' e) (hl:LR d w3 w2.heap.size none m' l):LO w (set10 w3 B m') B R G r' e m'∧LR d (set10 w3 B m') (B+1) none m' l:=by
 have h2:=h.after hm hr
 have hB:=h.own.lt
 refine ⟨⟨⟨h2.lc.mv.set10 (by have:=h.lt;omega) _,h2.lc.rd.set10 (by have:=h.lt;have:=h.lc.Rlt;omega) (by have:=h.lt;have:=h.lc.Glt;omega) _,h2.lc.res.same (set10_other _ _ _ (by have:=h.lt;omega)),h2.lc.Rlt,h2.lc.Glt⟩,h2.own.set m',h.lt⟩,hl.step (by omega) (.inl rfl) (fun k _ h4 _=>set10_other _ _ _ (by omega))⟩
theorem LR.after {w w':World} {R b:Nat} {d:Nat} {m:ML} {l:Ln} (h:LR d w b none m l) (hm:Mv w w' R none) (hR:R<b):LR d w' b none m l:=h.step (Nat.le_refl _) (.inl rfl) (hm.keeps hR (.inl rfl))
theorem LR.put {w:World} {B b:Nat} {d:Nat} {x:Option Nat} {m:ML} {l:Ln} (h:LR d w b x m l) (hB:B<b) (j:Nat) (v:Value):LR d (w.setCell ⟨B,j,none⟩ v) b x m l:=h.step (Nat.le_refl _) (.inl rfl) (fun k _ h2 _=>heap_set_other _ (by omega) _ _)
set_option maxHeartbeats 2000000 in
theorem line_any (e:Int) (R G:Nat) (ts:List Tok) (w:World) (h:RdX w R G ts e):Calls Tryz.prog 54 #[.pointer (some ⟨R,0,none⟩)] w (Out R G e w none (VL 3 w.heap.size) (lineT e ts)):=by
 have HC:Hid (LC w (w.alloc (.cells (ml1 noL).toArray 44)) R G ts e):=LC.start h
 obtain ⟨o,c,h⟩:=h
 obtain ⟨t,ht,hg,hw,ha,hx⟩:=h.head
 have hlt:G<w.heap.size:=h.ltG
 have hT:=fun o1=>ht.of_block (w':=w.alloc o1) (Below.heap_alloc _ _ _ hlt)
 have a1:=fun o1=>(hT o1).2.1
 have r0:=fun o1=>(h.after ((Below.refl _ w).alloc (Nat.le_refl _) o1)).cellR.1
 rw [ha] at a1
 clear h ht hg hw ha hx hT
 go_enter Tryz.func54,Tryz.ntmps54
 have HO:Hid (LO w ((w.alloc (.cells (ml1 noL).toArray 44)).alloc (.cells (ml1 noL).toArray 44)) (w.heap.size+1) R G ts e noL):=⟨HC.out.alloc _,by have:=LB.new (w.alloc (.cells (ml1 noL).toArray 44)) noL;rwa [World.size_alloc] at this,by omega⟩
 have hRB:R<w.heap.size+1+1:=by have:=HC.out.Rlt;omega
 go_upto_block 0 with fail
 clear HC a1 r0
 go_cut [] (fun wx=>Hid (∃ l r' m,someT e ts = .ok l r'∧LO w wx (w.heap.size+1) R G r' e m∧LR 3 wx (w.heap.size+1+1) none m l))
 case first=>
  go_wp2_with fail
  refine (pass_any _ R G 116 (by decide) ts e HO.out.lc.rd).mono ?_
  rintro y w1 ⟨rfl,hR1,hm1⟩
  have HO1:Hid (LO w w1 (w.heap.size+1) R G (passT 116 ts).2 e noL):=HO.out.after hm1 hR1
  clear hR1 hm1 HO
  by_cases h116:nxt ts=116
  · rw [show passT 116 ts=(true,ts.tail) by simp [passT,h116]] at HO1 ⊢
    simp only at HO1 ⊢
    have H1:Hid (nxt ts=116):=h116
    have hO1:=HO1.out
    obtain ⟨c0,c1,c2,c3,c4,c5,c6,c7,c8,c9⟩:=(hO1.own).cells
    obtain ⟨f0,f1,f2,f3,f4,f5,f6,f7,f8,f9⟩:=(hO1.own).frozen
    clear hO1 h116
    go_wp2_with fail
    go_meet
    refine ⟨⟨3,0,⟨#[]⟩,false,false,[],[],[],[],0⟩,ts.tail,⟨3,0,⟨#[]⟩,false,false,noS,noS,noS,noS,0⟩,?_,HO1.out.put 0 _ rfl,⟨rfl,rfl,rfl,rfl,rfl,rfl⟩,RowsS.nil _ _ _ _,RowsS.nil _ _ _ _,RowsS.nil _ _ _ _,RowsS.nil _ _ _ _⟩
    cases ts with
    | nil=>exact absurd H1.out (by decide)
    | cons t r=>
     have:=H1.out
     simp only [nxt] at this
     simp [someT,this]
  · rw [show passT 116 ts=(false,ts) by simp [passT,h116]] at HO1 ⊢
    simp only at HO1 ⊢
    have H1:Hid (nxt ts≠116):=h116
    clear h116
    have hO1:=HO1.out
    obtain ⟨c0,c1,c2,c3,c4,c5,c6,c7,c8,c9⟩:=(hO1.own).cells
    obtain ⟨f0,f1,f2,f3,f4,f5,f6,f7,f8,f9⟩:=(hO1.own).frozen
    clear hO1
    by_cases h36:nxt ts=36
    · cases ts with
      | nil=>exact absurd h36 (by decide)
      | cons t r=>
       have H36:Hid (nxt (t::r)=36):=h36
       clear c0 c1 c2 c3 c4 c5 c6 c7 c8 c9 f0 f1 f2 f3 f4 f5 f6 f7 f8 f9 h36
       go_wp2_with fail
       refine (next_any _ R G (t::r) e HO1.out.lc.rd).mono ?_
       rintro y w2 ⟨rfl,hb2⟩
       rw [H36.out]
       have HO2:Hid (LO w w2 (w.heap.size+1) R G (t::r) e noL):=HO1.out.below hb2
       clear hb2 HO1
       obtain ⟨x2,hx2,hg2,hw2⟩:∃ x2,((t::r)++[sen e])[1]? = some x2∧GoodT x2∧which x2=nxt r:=by
        obtain ⟨o2,c2,h2⟩:=HO2.out.lc.rd
        cases r with
        | nil=>exact ⟨sen e,rfl,⟨(fun e=>by cases e),(by simp [sen])⟩,rfl⟩
        | cons x r=>exact ⟨x,rfl,h2.good x (by simp),rfl⟩
       obtain ⟨o2,c2,h2⟩:=HO2.out.lc.rd
       obtain ⟨b0,b1,b2,b3,b4,b5⟩:=h2.tk 1 x2 hx2
       obtain ⟨q0,-⟩:=h2.cellR
       simp only [Nat.one_mul,List.length_cons] at b0 b1 b2 b3 b4 b5 q0
       have HG:Hid (GoodT x2):=hg2
       have HW2:Hid (which x2=nxt r):=hw2
       clear h2 hx2 hg2 hw2
       go_wp2_with fail
       refine (whichOf_any x2 _ HG.out).mono ?_
       rintro y w3 ⟨rfl,hb3⟩
       rw [HW2.out]
       have HO3:Hid (LO w w3 (w.heap.size+1) R G (t::r) e noL):=HO2.out.below hb3
       have hw36:Hid (which t=36):=H36.out
       clear b0 b1 b2 b3 b4 b5 q0 hb3 HO2 HG HW2 H1
       have HO2:Hid (LO w w3 (w.heap.size+1) R G (t::r) e noL):=HO3
       clear HO3
       by_cases h21:nxt r=21
       · have HE:Hid (someT e (t::r)=defT e t r):=by
          show _=_
          have:=hw36.out
          simp [someT,this,h21]
         have hd21:(nxt r == 21)=true:=by simpa using h21
         clear h21
         go_wp2_with fail
         refine (def_any e R G t r _ HO2.out.lc.rd hw36.out).mono ?_
         rintro y w4 ⟨hm4,hx⟩
         generalize hS:defT e t r=S at hx
         cases S with
         | no ea ec=>
          simp only at hx
          subst hx
          refine ⟨rfl,?_⟩
          rw [show lineT e (t::r) = .no ea ec by simp [lineT,HE.out,hS,Res.bind]]
          exact ⟨HO2.out.lc.mv.and hm4,rfl⟩
         | ok l r'=>
          obtain ⟨v,rfl,hR4,m,rfl,hL⟩:=hx
          have hO4:=HO2.out.after hm4 hR4
          have hX:=HO2.out.tells hm4 hR4 hL
          have HX:Hid ((LO w (set10 w4 (w.heap.size+1) m) (w.heap.size+1) R G r' e m∧LR 3 (set10 w4 (w.heap.size+1) m) (w.heap.size+1+1) none m l)∧defT e t r = .ok l r'):=⟨hX,hS⟩
          obtain ⟨c0,c1,c2,c3,c4,c5,c6,c7,c8,c9⟩:=(hO4.own).cells
          obtain ⟨f0,f1,f2,f3,f4,f5,f6,f7,f8,f9⟩:=(hO4.own).frozen
          clear hX hS hm4 hR4 hL hO4
          go_wp2_with fail
          go_meet
          exact ⟨l,r',m,by rw [HE.out];exact HX.out.2,HX.out.1.1,HX.out.1.2⟩
       · have HE:Hid (someT e (t::r)=ruleT e (t::r)):=by
          show _=_
          have:=hw36.out
          simp [someT,this,h21]
         have hd21:(nxt r == 21)=false:=by simpa using h21
         clear h21
         go_wp2_with fail
         refine (rule_any e R G (t::r) _ HO2.out.lc.rd).mono ?_
         rintro y w4 ⟨hm4,hx⟩
         generalize hS:ruleT e (t::r)=S at hx
         cases S with
         | no ea ec=>
          simp only at hx
          subst hx
          refine ⟨rfl,?_⟩
          rw [show lineT e (t::r) = .no ea ec by simp [lineT,HE.out,hS,Res.bind]]
          exact ⟨HO2.out.lc.mv.and hm4,rfl⟩
         | ok l r'=>
          obtain ⟨v,rfl,hR4,m,rfl,hL⟩:=hx
          have hO4:=HO2.out.after hm4 hR4
          have hX:=HO2.out.tells hm4 hR4 hL
          have HX:Hid ((LO w (set10 w4 (w.heap.size+1) m) (w.heap.size+1) R G r' e m∧LR 3 (set10 w4 (w.heap.size+1) m) (w.heap.size+1+1) none m l)∧ruleT e (t::r) = .ok l r'):=⟨hX,hS⟩
          obtain ⟨c0,c1,c2,c3,c4,c5,c6,c7,c8,c9⟩:=(hO4.own).cells
          obtain ⟨f0,f1,f2,f3,f4,f5,f6,f7,f8,f9⟩:=(hO4.own).frozen
          clear hX hS hm4 hR4 hL hO4
          go_wp2_with fail
          go_meet
          exact ⟨l,r',m,by rw [HE.out];exact HX.out.2,HX.out.1.1,HX.out.1.2⟩
    · have HE:Hid (someT e ts=ruleT e ts):=by
       show _=_
       have h116:=H1.out
       cases ts with
       | nil=>rfl
       | cons t r=>
        simp only [nxt] at h116 h36
        simp [someT,h116,h36]
      have hd36:(nxt ts == 36)=false:=by simpa using h36
      clear c0 c1 c2 c3 c4 c5 c6 c7 c8 c9 f0 f1 f2 f3 f4 f5 f6 f7 f8 f9 h36 H1
      go_wp2_with fail
      refine (next_any _ R G ts e HO1.out.lc.rd).mono ?_
      rintro y w2 ⟨rfl,hb2⟩
      have HO2:Hid (LO w w2 (w.heap.size+1) R G ts e noL):=HO1.out.below hb2
      clear hb2 HO1
      go_wp2_with fail
      refine (rule_any e R G ts _ HO2.out.lc.rd).mono ?_
      rintro y w4 ⟨hm4,hx⟩
      generalize hS:ruleT e ts=S at hx
      cases S with
      | no ea ec=>
       simp only at hx
       subst hx
       refine ⟨rfl,?_⟩
       rw [show lineT e ts = .no ea ec by simp [lineT,HE.out,hS,Res.bind]]
       exact ⟨HO2.out.lc.mv.and hm4,rfl⟩
      | ok l r'=>
       obtain ⟨v,rfl,hR4,m,rfl,hL⟩:=hx
       have hO4:=HO2.out.after hm4 hR4
       have hX:=HO2.out.tells hm4 hR4 hL
       have HX:Hid ((LO w (set10 w4 (w.heap.size+1) m) (w.heap.size+1) R G r' e m∧LR 3 (set10 w4 (w.heap.size+1) m) (w.heap.size+1+1) none m l)∧ruleT e ts = .ok l r'):=⟨hX,hS⟩
       obtain ⟨c0,c1,c2,c3,c4,c5,c6,c7,c8,c9⟩:=(hO4.own).cells
       obtain ⟨f0,f1,f2,f3,f4,f5,f6,f7,f8,f9⟩:=(hO4.own).frozen
       clear hX hS hm4 hR4 hL hO4
       go_wp2_with fail
       go_meet
       exact ⟨l,r',m,by rw [HE.out];exact HX.out.2,HX.out.1.1,HX.out.1.2⟩
 case rest=>
  obtain ⟨l,r',m,hA,hO,hL⟩:=hcut.out
  have HA:Hid (someT e ts = .ok l r'):=hA
  have HL:Hid (LO w wc (w.heap.size+1) R G r' e m∧LR 3 wc (w.heap.size+1+1) none m l):=⟨hO,hL⟩
  clear hcut hA hO hL HO
  go_wp2_with fail
  refine (want_any _ R G 11 (by decide) r' e HL.out.1.lc.rd).mono ?_
  rintro y w4 ⟨hm4,hx⟩
  generalize hW:wantT e 11 r'=W at hx
  cases W with
  | no ea ec=>
   simp only at hx
   subst hx
   refine ⟨rfl,?_⟩
   rw [show lineT e ts = .no ea ec by simp [lineT,HA.out,hW,Res.bind]]
   exact ⟨HL.out.1.lc.mv.and hm4,rfl⟩
  | ok u r4=>
   obtain ⟨v,rfl,hR4,rfl⟩:=hx
   have HW:Hid (wantT e 11 r' = .ok u r4):=hW
   have hO4:=HL.out.1.after hm4 hR4
   have hO5:=hO4.put (m':=⟨m.k,atOf e ts,m.t,m.bg,m.en,m.s1,m.s2,m.s3,m.s4,m.cur⟩) 1 (.int .i64 (atOf e ts)) rfl
   have HX:Hid (LO w (w4.setCell ⟨w.heap.size+1,1,none⟩ (.int .i64 (atOf e ts))) (w.heap.size+1) R G r4 e ⟨m.k,atOf e ts,m.t,m.bg,m.en,m.s1,m.s2,m.s3,m.s4,m.cur⟩∧LR 3 (w4.setCell ⟨w.heap.size+1,1,none⟩ (.int .i64 (atOf e ts))) (w.heap.size+1) none m l):=⟨hO5,((HL.out.2.after hm4 hRB).put (by omega) _ _).step (by omega) (.inl rfl) (fun _ _ _ _=>rfl)⟩
   have hne:w.heap.size+1≠w.heap.size:=by omega
   have hne2:w.heap.size≠w.heap.size+1:=by omega
   obtain ⟨c0,c1,c2,c3,c4,c5,c6,c7,c8,c9⟩:=(hO4.own).cells
   obtain ⟨f0,f1,f2,f3,f4,f5,f6,f7,f8,f9⟩:=(hO4.own).frozen
   obtain ⟨ss0,ss1,ss2,ss3,ss4,ss5,ss6,ss7,ss8,ss9⟩:=(hO4.lc.res).cells
   obtain ⟨z0,z1,z2,z3,z4,z5,z6,z7,z8,z9⟩:=(hO4.lc.res).frozen
   clear hO4 hO5 hW hm4 hR4 HL
   go_wp2
   have hp:=HX.out.2.1
   obtain ⟨K1,K2⟩:=HX.out.1.lc.tell (d:=3) (m:=⟨m.k,atOf e ts,m.t,m.bg,m.en,m.s1,m.s2,m.s3,m.s4,m.cur⟩) (l := { l with a:=atOf e ts }) ⟨⟨hp.1,rfl,hp.2.2.1,hp.2.2.2.1,hp.2.2.2.2.1,hp.2.2.2.2.2⟩,HX.out.2.2⟩
   refine ret_ln rfl rfl K1 ?_
   rw [show lineT e ts = .ok { l with a:=atOf e ts } r4 by simp [lineT,HA.out,HW.out,Res.bind]]
   exact K2
end Go.Proofs
namespace Go.Proofs
open Go.RowKit Go.Shelf
set_option maxRecDepth 100000
attribute [local go_sem] Oper.semAt_some
def Le {α:Type} (s:Res α) (n:Nat):Prop:=∀ x r,s = .ok x r→r.length≤n
theorem Le.no {α:Type} (a c:Int) (n:Nat):Le (.no a c:Res α) n:=fun _ _ e=>by cases e
theorem Le.ok {α:Type} {x:α} {r:List Tok} {n:Nat} (h:r.length≤n):Le (.ok x r) n:=fun _ _ e=>by cases e;exact h
theorem Le.bind {α β:Type} {s:Res α} {f:α→List Tok→Res β} {n m:Nat} (h:Le s m) (hf:∀ x r,r.length≤m→Le (f x r) n):Le (s.bind f) n:=by
 cases s with
 | no a c=>exact Le.no _ _ _
 | ok x r=>exact hf x r (h x r rfl)
theorem Le.mono {α:Type} {s:Res α} {n m:Nat} (h:Le s n) (hm:n≤m):Le s m:=fun x r e=>Nat.le_trans (h x r e) hm
theorem pass_le (n:Int) (ts:List Tok):(passT n ts).2.length≤ts.length:=by
 unfold passT
 split
 · simp
 · simp
theorem want_le (e n:Int) (ts:List Tok):Le (wantT e n ts) (ts.length - 1):=by
 unfold wantT
 split
 · exact Le.ok (by simp)
 · exact Le.no _ _ _
theorem upTo_le (e:Int) (f:Tok) (ts:List Tok):Le (upToT e f ts) ts.length:=by
 cases ts with
 | nil=>exact Le.no _ _ _
 | cons t r=>
  simp only [upToT]
  split
  · split
    · exact Le.ok (by simp)
    · exact Le.no _ _ _
  · exact Le.no _ _ _
theorem row_le (e:Int) (may:Nat) (it:List Tok→Res It) (hit:∀ ts,Le (it ts) ts.length):∀ (n:Nat) (ts:List Tok),Le (rowT e may it n ts) ts.length
 | 0,ts=>by
  unfold rowT
  split
  · exact Le.no _ _ _
  · exact Le.ok (Nat.le_refl _)
 | n+1,ts=>by
  unfold rowT
  split
  · exact (hit ts).bind fun x r h=>(row_le e may it hit n r).bind fun xs r2 h2=>Le.ok (Nat.le_trans h2 h)
  · exact Le.ok (Nat.le_refl _)
theorem item_le (e:Int) (may:Nat) (sets:List Tok→Res (List It)) (pairs:List Tok→Res It) (h1:∀ ts,Le (sets ts) ts.length) (h2:∀ ts,Le (pairs ts) ts.length) (ts:List Tok):Le (itemT e may sets pairs ts) ts.length:=by
 cases ts with
 | nil=>exact Le.no _ _ _
 | cons t r=>
  simp only [itemT]
  split
  · unfold restT
    split
    · split
      · exact (upTo_le e t r.tail).mono (by simp;omega)
      · exact Le.ok (by simp)
    · exact Le.ok (by simp)
    · exact Le.ok (by simp)
    · exact Le.ok (by simp)
    · exact (h1 _).bind fun ps r2 k=>(want_le e 19 r2).bind fun _ r3 k3=>Le.ok (by have:=pass_le 15 r;simp;omega)
    · split
      · exact (h2 _).bind fun x r2 k=>Le.ok (by simp at k ⊢;omega)
      · exact Le.ok (by simp)
  · exact Le.no _ _ _
theorem part_le (e:Int) (ts:List Tok):Le (partT e ts) ts.length:=item_le e 78 noRow noItem (fun _=>Le.no _ _ _) (fun _=>Le.no _ _ _) ts
theorem side_le (e:Int) (may:Nat) (ts:List Tok):Le (sideT e may ts) ts.length:=item_le e may (partsT e) noItem (row_le e 78 (partT e) (part_le e) 512) (fun _=>Le.no _ _ _) ts
theorem piece_le (e:Int) (ts:List Tok):Le (pieceT e ts) ts.length:=item_le e 386 noRow (sideT e 60) (fun _=>Le.no _ _ _) (side_le e 60) ts
theorem sides_le (e:Int) (ts:List Tok):Le (sidesT e ts) ts.length:=row_le e 62 (sideT e 62) (side_le e 62) 512 ts
theorem result_le (e:Int) (d:Nat) (ts:List Tok):Le (resultT e d ts) ts.length:=row_le e 386 (pieceT e) (piece_le e) d ts
theorem rule_le (e:Int) (ts:List Tok):Le (ruleT e ts) ts.length:=by
 unfold ruleT
 refine (sides_le e _).bind fun x r1 h1 => ?_
 have h0:=pass_le 15 ts
 refine Le.bind (m:=r1.length) ?_ fun ak r2 h2=>Le.bind (m:=r2.length) ?_ fun pe r3 h3=>(want_le e 10 r3).bind fun _ r4 h4=>Le.bind (m:=r4.length) ?_ fun rc r5 h5=>Le.ok (by omega)
 · unfold anteT
   split
   · exact (want_le e 12 r1).bind fun _ r h=>(sides_le e r).bind fun y r2 h2=>Le.ok (by omega)
   · exact Le.ok (Nat.le_refl _)
 · unfold postT
   split
   · exact (sides_le e r2.tail).bind fun po r h=>Le.ok (by have:=pass_le 16 r;simp at h;omega)
   · exact Le.ok (Nat.le_refl _)
 · unfold tailT
   refine (result_le e 512 r4).bind fun x r h => ?_
   split
   · exact (result_le e _ r.tail).bind fun y r2 h2=>Le.ok (by simp at h2;omega)
   · exact Le.ok h
theorem def_le (e:Int) (t:Tok) (ts:List Tok):Le (defT e t ts) ts.length:=by
 unfold defT
 exact (want_le e 21 ts).bind fun _ r h=>(side_le e 62 r).bind fun x r2 h2=>Le.ok (by omega)
theorem some_le (e:Int) (ts:List Tok):Le (someT e ts) ts.length:=by
 unfold someT
 split
 · exact rule_le e []
 · split
   · exact Le.ok (by simp)
   · split
     · exact (def_le e _ _).mono (by simp)
     · exact rule_le e _
theorem line_le {e:Int} {ts:List Tok} {l:Ln} {r:List Tok} (h:lineT e ts = .ok l r):r.length+1≤ts.length:=by
 unfold lineT at h
 cases hs:someT e ts with
 | no a c=>rw [hs] at h;cases h
 | ok l1 r1=>
  have h1:=some_le e ts l1 r1 hs
  rw [hs] at h
  simp only [Res.bind] at h
  cases hw:wantT e 11 r1 with
  | no a c=>rw [hw] at h;cases h
  | ok u r2=>
   rw [hw] at h
   cases h
   have h3:=want_le e 11 r1 u _ hw
   cases r1 with
   | nil=>simp [wantT,nxt] at hw
   | cons t q=>simp at h1 h3;omega
def fl10 (l:List ML):List Value:=l.flatMap ml1
theorem fl10_append (l m:List ML):fl10 (l++m)=fl10 l++fl10 m:=by simp [fl10]
theorem fl10_one (l:List ML):∀ u∈fl10 l,u.oneCell'=true:=by
 intro u hu
 simp only [fl10,List.mem_flatMap] at hu
 obtain ⟨x,_,hx⟩:=hu
 simp only [ml1,List.mem_cons,List.not_mem_nil,or_false] at hx
 rcases hx with rfl | rfl | rfl | rfl | rfl | rfl | rfl | rfl | rfl | rfl <;> rfl
def OwnL (w:World) (b:Nat) (v:Value) (l:List Ln):Prop:=∃ ms,w.ownsRow b 44 10 v ms.length (fl10 ms)∧All2 (LR 3 w b v.ownBlock) ms l
theorem OwnL.nil (w:World) (b:Nat):OwnL w b (.slice none 0 0) []:=⟨[],World.ownsRow_nil _ _ _ _,trivial⟩
theorem OwnL.form {w:World} {b:Nat} {v:Value} {l:List Ln} (h:OwnL w b v l):∃ A c,v = .slice A l.length c:=by
 obtain ⟨ms,h1,h2⟩:=h
 rcases h1.2 with ⟨e,h0⟩ | ⟨g,cap,cur,e,_⟩
 · subst e;exact ⟨none,0,by rw [←h2.length,h0]⟩
 · exact ⟨_,_,by rw [←h2.length];exact e⟩
theorem OwnL.lt {w:World} {b:Nat} {v:Value} {l:List Ln} (h:OwnL w b v l):∀ g,v.ownBlock=some g→b≤g∧g<w.heap.size:=by
 obtain ⟨ms,h1,h2⟩:=h
 exact fun g e=>World.ownsRow.lt h1 g e
theorem OwnL.step {w w':World} {b:Nat} {v:Value} {l:List Ln} (h:OwnL w b v l) (hw:∀ k,k<w.heap.size→b≤k→w'.heap[k]? = w.heap[k]?):OwnL w' b v l:=by
 obtain ⟨ms,h1,h2⟩:=h
 refine ⟨ms,⟨h1.1,h1.2.imp id ?_⟩,h2.mono fun _ _ r=>r.step (Nat.le_refl _) (.inl rfl) (fun k k1 k2 _=>hw k k1 k2)⟩
 rintro ⟨g,cap,cur,rfl,k1,k2,k3⟩
 exact ⟨g,cap,cur,rfl,k1,(hw g (Array.getElem?_eq_some_iff.1 k2).1 k1).trans k2,k3⟩
theorem info39:(Tryz.prog.info? 44).map (fun i=>(i.zero,i.size,i.bytes))=some (some (.agg #[.int .i64 0,.int .i64 0,.string ⟨#[]⟩,.bool false,.bool false,.slice none 0 0,.slice none 0 0,.slice none 0 0,.slice none 0 0,.int .i64 0]),10,144):=by kernel_rfl
end Go.Proofs
