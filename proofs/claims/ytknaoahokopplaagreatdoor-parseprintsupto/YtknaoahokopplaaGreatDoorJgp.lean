/-
  The parser's items, any of them; rows of items.
-/
import Derived.Shelf.Abstract
import Derived.WalkKit
import Derived.WalkSpells
import Derived.WalkLawsBesides
import Derived.BigQuiet
import Derived.Deep.QuietTactic
import Derived.Deep.LoopGhost
import Derived.WalkMore
import Derived.Test.YtknaoahokopplaaGreatDoorJfp
namespace Go.Proofs
open Go.RowKit Go.Shelf
set_option maxRecDepth 100000
attribute [local go_sem] Oper.semAt_some
theorem begun_cases (n:Int):begun n=0∨begun n=1∨begun n=2∨begun n=3∨begun n=4∨begun n=5∨begun n=7:=by
 unfold begun
 split
 · omega
 · split
   · omega
   · split
     · omega
     · split
       · omega
       · split
         · omega
         · split <;> omega
theorem may_zero {m:Nat} (h:may4 m):m.testBit 0=false:=by
 rcases h with rfl | rfl | rfl | rfl <;> rfl
theorem item_any (d may:Nat) (hmay:may4 may) (sets:List Tok→Res (List It)) (pairs:List Tok→Res It) (e:Int) (R G:Nat)
 (hsets:may.testBit 5=true→∀ ts w,RdX w R G ts e→Calls Tryz.prog 143 #[.pointer (some ⟨R,0,none⟩),.slice none 0 0,.int .i64 78] w (Out R G e w none (VR d w.heap.size) (sets ts)))
 (hpairs:may.testBit 7=true→∀ ts w,RdX w R G ts e→Calls Tryz.prog 142 #[.pointer (some ⟨R,0,none⟩),.int .i64 60] w (Out R G e w none (VI d w.heap.size) (pairs ts)))
 (ts:List Tok) (w:World) (h:RdX w R G ts e):Calls Tryz.prog 142 #[.pointer (some ⟨R,0,none⟩),.int .i64 may] w (Out R G e w none (VI (d+1) w.heap.size) (itemT e may sets pairs ts)):=by
 by_cases hb:may.testBit (begun (nxt ts))=true
 · cases ts with
   | nil=>
    have:=may_zero hmay
    simp [nxt,begun,this] at hb
   | cons t r=>
    have hi:itemT e may sets pairs (t::r)=restT e may sets pairs t r:=by
     simp only [nxt] at hb
     simp [itemT,hb]
    have hg:GoodT t:=by
     obtain ⟨o,c,h⟩:=h
     exact h.good t (List.mem_cons_self ..)
    rw [hi]
    simp only [nxt] at hb
    rcases begun_cases (which t) with hk | hk | hk | hk | hk | hk | hk <;> rw [hk] at hb
    · rw [may_zero hmay] at hb;cases hb
    · by_cases h6:may.testBit 6=true
      · by_cases h20:nxt r=20
        · have:restT e may sets pairs t r=upToT e t r.tail:=by simp [restT,hk,h6,h20]
          rw [this]
          exact item_1c may hmay d w R G t r e h hk hb h6 h20
        · have:restT e may sets pairs t r = .ok (.mk 1 t.u ⟨#[]⟩ [] 0 0 false 0) r:=by simp [restT,hk,h20]
          rw [this]
          exact item_1b may hmay d w R G t r e h hk hb h6 h20
      · have h6:may.testBit 6=false:=by simpa using h6
        have:restT e may sets pairs t r = .ok (.mk 1 t.u ⟨#[]⟩ [] 0 0 false 0) r:=by simp [restT,hk,h6]
        rw [this]
        exact item_1a may hmay d w R G t r e h hk hb h6
    · have:restT e may sets pairs t r = .ok (.mk 2 0 (bareN t) [] 0 0 false 0) r:=by simp [restT,hk]
      rw [this]
      exact item_2 may hmay d w R G t r e h hg hk hb
    · have:restT e may sets pairs t r = .ok (.mk 3 0 (bareN t) [] 0 0 false 0) r:=by simp [restT,hk]
      rw [this]
      exact item_3 may hmay d w R G t r e h hg hk hb
    · have:restT e may sets pairs t r = .ok (.mk 4 0 ⟨#[]⟩ [] 0 0 false 0) r:=by simp [restT,hk]
      rw [this]
      exact item_4 may hmay d w R G t r e h hk hb
    · have:restT e may sets pairs t r=(sets (passT 15 r).2).bind fun ps r2=>(wantT e 19 r2).bind fun _ r3 => .ok (.mk 5 0 ⟨#[]⟩ ps 0 0 (passT 15 r).1 0) r3:=by simp [restT,hk]
      rw [this]
      exact item_5 may hmay d w R G t r e h hk hb _ (fun w hw=>hsets hb _ w hw)
    · by_cases h22:nxt r=22
      · have:restT e may sets pairs t r=(pairs r.tail).bind fun x r2 => .ok (.mk 8 0 ⟨#[]⟩ [x] 0 0 false t.n) r2:=by simp [restT,hk,h22]
        rw [this]
        exact item_7b may hmay d w R G t r e h hk hb h22 _ (fun w hw=>hpairs hb _ w hw)
      · have:restT e may sets pairs t r = .ok (.mk 7 0 ⟨#[]⟩ [] 0 0 false t.n) r:=by simp [restT,hk,h22]
        rw [this]
        exact item_7a may hmay d w R G t r e h hk hb h22
 · exact item_no may hmay sets pairs _ w R G ts e h (by simpa using hb)
def lenOf:Value→Nat
 | .slice _ n _=>n
 | _=>0
def RowOut (d:Nat) (e:Int) (R G b:Nat) (w:World) (y:Option Nat) (l:List It) (s:Res (List It)) (x:Ending) (w':World):Prop:=
 Mv w w' R y∧match s with
 | .ok xs r=>∃ A c,x = .returned (.slice A (l++xs).length c)∧RdX w' R G r e∧OwnI d w' b (.slice A (l++xs).length c) (l++xs)
 | .no a c=>x=thrown a c
def RowRel (d may:Nat) (it:List Tok→Res It) (e:Int) (R G b:Nat) (w:World) (v:Value) (l:List It) (n:Nat) (ts:List Tok) (vr:Value) (wr:World):Prop:=
 ∃ n1 ts1 pre,(l++pre).length+n1=512∧RdX wr R G ts1 e∧OwnI d wr b vr (l++pre)∧Mv w wr R v.ownBlock∧(vr.ownBlock=v.ownBlock∨∀ g,vr.ownBlock=some g→w.heap.size≤g) ∧
  rowT e may it n ts=match rowT e may it n1 ts1 with | .ok xs r => .ok (pre++xs) r | .no a c => .no a c
set_option maxHeartbeats 1000000 in
theorem row_any (d may:Nat) (hmay:may4 may) (it:List Tok→Res It) (e:Int) (R G b:Nat) (hRb:R<b) (hGb:G<b)
 (hit:∀ ts w,RdX w R G ts e→Calls Tryz.prog 142 #[.pointer (some ⟨R,0,none⟩),.int .i64 may] w (Out R G e w none (VI d w.heap.size) (it ts)))
 (n:Nat) (ts:List Tok) (w:World) (v:Value) (l:List It) (h:RdX w R G ts e) (hO:OwnI d w b v l) (hn:l.length+n=512) (hb:b≤w.heap.size) :
 Calls Tryz.prog 143 #[.pointer (some ⟨R,0,none⟩),v,.int .i64 may] w (RowOut d e R G b w v.ownBlock l (rowT e may it n ts)):=by
 have H:Hid (RdX w R G ts e∧OwnI d w b v l∧may4 may):=⟨h,hO,hmay⟩
 have HI:Hid (∀ ts w,RdX w R G ts e→Calls Tryz.prog 142 #[.pointer (some ⟨R,0,none⟩),.int .i64 may] w (Out R G e w none (VI d w.heap.size) (it ts))):=hit
 clear h hO hmay hit
 have h0:Hid (RowRel d may it e R G b w v l n ts v w):=⟨n,ts,[],by simpa using hn,H.out.1,by simpa using H.out.2.1,Mv.refl _ _ _,.inl rfl,by cases rowT e may it n ts <;> simp⟩
 have HM:Hid (may4 may):=H.out.2.2
 clear H
 go_enter Tryz.func143,Tryz.ntmps143
 go_wp2
 go_loopw [1] (fun vr wr=>Hid (RowRel d may it e R G b w v l n ts vr wr)) (fun vr _=>512 - lenOf vr)
 case atStart=>exact h0
 case round=>
  obtain ⟨n1,ts1,pre,hn1,hR1,hO1,hM1,hv1,hT1⟩:=hrel.out
  clear hrel h0
  have hl1:=hM1.size
  obtain ⟨A1,c1,rfl⟩:=hO1.form
  have HR:Hid (RdX wr R G ts1 e):=hR1
  have HO:Hid (OwnI d wr b (.slice A1 (l++pre).length c1) (l++pre)):=hO1
  have HV:Hid (Mv w wr R v.ownBlock∧((Value.slice A1 (l++pre).length c1).ownBlock=v.ownBlock∨∀ g,(Value.slice A1 (l++pre).length c1).ownBlock=some g→w.heap.size≤g)):=⟨hM1,hv1⟩
  have HT:Hid (rowT e may it n ts=match rowT e may it n1 ts1 with | .ok xs r => .ok (pre++xs) r | .no a c => .no a c):=hT1
  have hln:(l++pre).length+n1=512:=hn1
  clear hR1 hO1 hM1 hv1 hT1 hn1
  obtain ⟨len,hlen⟩:∃ len,(l++pre).length=len:=⟨_,rfl⟩
  rw [hlen] at HO HV hln ⊢
  by_cases hb1:may.testBit (begun (nxt ts1))=true
  · cases n1 with
    | zero=>
     have hL:len=512:=by omega
     subst hL
     have ho:Hid (rowT e may it n ts = .no (atOf e ts1) 52):=by show _=_;rw [HT.out];simp [rowT,hb1]
     go_wp2_with (first | (go_at_call 167;refine (begun_any _ R G ts1 e HR.out).mono ?_;rintro x w1 ⟨rfl,hb2⟩) | (go_at_call 168;refine (has_any may _ HM.out (begun_le _) _).mono ?_;rintro x w2 ⟨rfl,rfl⟩;rw [hb1]) | (go_at_call 144;refine (refuse_any _ R G 52 ts1 e (HR.out.below hb2 (Nat.le_refl _))).mono ?_;rintro x w3 ⟨rfl,hb3⟩))
     refine ⟨rfl,?_⟩
     rw [ho.out]
     exact ⟨(HV.out.1.and (Mv.of_below hb2)).and (Mv.of_below hb3),rfl⟩
    | succ n2=>
     have hne:((len:Int) == 512)=false:=by simp;omega
     go_wp2_with (first | (go_at_call 167;refine (begun_any _ R G ts1 e HR.out).mono ?_;rintro x w1 ⟨rfl,hb2⟩) | (go_at_call 168;refine (has_any may _ HM.out (begun_le _) _).mono ?_;rintro x w2 ⟨rfl,rfl⟩;rw [hb1]) | fail)
     refine (HI.out ts1 _ (HR.out.below hb2 (Nat.le_refl _))).mono ?_
     rintro x w3 ⟨hm3,hx⟩
     obtain ⟨U,hU⟩:∃ U,it ts1=U:=⟨_,rfl⟩
     rw [hU] at hx
     have hmv:Mv w w3 R v.ownBlock:=(HV.out.1.and (Mv.of_below hb2)).and hm3
     cases U with
     | no a c=>
      simp only at hx
      subst hx
      have ho:rowT e may it n ts = .no a c:=by rw [HT.out];simp [rowT,hb1,hU,Res.bind]
      refine ⟨rfl,?_⟩
      rw [ho]
      exact ⟨hmv,rfl⟩
     | ok i r2=>
      obtain ⟨y,rfl,hR3,m,rfl,hD⟩:=hx
      have ho:rowT e may it n ts=match rowT e may it n2 r2 with | .ok xs r => .ok ((pre++[i])++xs) r | .no a c => .no a c:=by
       rw [HT.out]
       simp only [rowT,hb1,hU,Res.bind,if_true]
       cases rowT e may it n2 r2 <;> simp
      have hO3:OwnI d w3 b (.slice A1 len c1) (l++pre):=(HO.out.step (fun k h1 _=>hb2.block k h1)).step (fun k h1 h2=>hm3.block k h1 (by omega) (by simp))
      have hO4:=hO3.step (w':=w3.alloc (.cells (mi1 m).toArray 58)) (fun k h1 _=>Below.heap_alloc _ _ _ h1)
      have hD4:DR d (w3.alloc (.cells (mi1 m).toArray 58)) b (Value.slice A1 len c1).ownBlock m i:=hD.step (by have:=hb2.size;omega) (.inr (.inr fun g e => .inr (by
       have:=(HO.out.lt g e).2
       have:=hb2.size
       omega))) (fun k h1 _ _=>Below.heap_alloc _ _ _ h1)
      have HH:Hid (OwnI d (w3.alloc (.cells (mi1 m).toArray 58)) b (.slice A1 len c1) (l++pre)∧DR d (w3.alloc (.cells (mi1 m).toArray 58)) b (Value.slice A1 len c1).ownBlock m i∧Mv w w3 R v.ownBlock∧RdX w3 R G r2 e):=⟨hO4,hD4,hmv,hR3⟩
      have HQ:Hid (rowT e may it n ts=match rowT e may it n2 r2 with | .ok xs r => .ok ((pre++[i])++xs) r | .no a c => .no a c):=ho
      have hz3:b≤w3.heap.size:=by have:=hmv.size;omega
      clear hO3 hO4 hD4 hmv hR3 hD hm3 ho hU hb2
      go_wp2_with (at_builtin;go_must (refine push_I rfl _ _ 42 rfl Tryz.underlying42 d b _ (l++pre) rfl HH.out.1 w3.heap.size 1 m i rfl (World.alloc_heap_new _ _) HH.out.2.1 (by omega) (by simp;omega) ?_);intro A4 c4 w4 hO5 hgr hat;rw [hlen] at hO5 hat ⊢)
      have hown:=HH.out.1.lt
      have hRo:some R≠(Value.slice A1 len c1).ownBlock:=fun e=>by have:=(hown R e.symm).1;omega
      have hGo:some G≠(Value.slice A1 len c1).ownBlock:=fun e=>by have:=(hown G e.symm).1;omega
      refine ⟨⟨n2,r2,pre++[i],?_,(HH.out.2.2.2.alloc _).grown hgr hRo hGo,?_,?_,?_,HQ.out⟩,by simp only [lenOf];omega⟩
      · simp at hlen ⊢;omega
      · rw [←List.append_assoc];exact hO5
      · exact (HH.out.2.2.1.alloc _).trans (Mv.of_grown hgr) HV.out.2
      · rcases hat with e | e
        · rw [e];exact HV.out.2
        · right
          intro g e2
          rw [e] at e2
          have:=Option.some.inj e2
          have:=HH.out.2.2.1.size
          simp at *
          omega
  · have hb1:may.testBit (begun (nxt ts1))=false:=by simpa using hb1
    have ho:Hid (rowT e may it n ts = .ok pre ts1):=by
     show _=_
     rw [HT.out]
     cases n1 <;> simp [rowT,hb1]
    go_wp2_with (first | (go_at_call 167;refine (begun_any _ R G ts1 e HR.out).mono ?_;rintro x w1 ⟨rfl,hb2⟩) | (go_at_call 168;refine (has_any may _ HM.out (begun_le _) _).mono ?_;rintro x w2 ⟨rfl,rfl⟩;rw [hb1]) | fail)
    go_ret
    rw [ho.out]
    refine ⟨HV.out.1.and (Mv.of_below hb2),A1,c1,?_,HR.out.below hb2 (Nat.le_refl _),?_⟩
    · rw [hlen];rfl
    · rw [hlen]
      exact HO.out.step (fun k h1 _=>hb2.block k h1)
theorem row_nil (d may:Nat) (hmay:may4 may) (it:List Tok→Res It) (e:Int) (R G:Nat)
 (hit:∀ ts w,RdX w R G ts e→Calls Tryz.prog 142 #[.pointer (some ⟨R,0,none⟩),.int .i64 may] w (Out R G e w none (VI d w.heap.size) (it ts)))
 (ts:List Tok) (w:World) (h:RdX w R G ts e):Calls Tryz.prog 143 #[.pointer (some ⟨R,0,none⟩),.slice none 0 0,.int .i64 may] w (Out R G e w none (VR d w.heap.size) (rowT e may it 512 ts)):=by
 refine (row_any d may hmay it e R G w.heap.size h.lt.1 h.lt.2 hit 512 ts w (.slice none 0 0) [] h (OwnI.nil _ _ _) rfl (Nat.le_refl _)).mono ?_
 rintro x w' ⟨hm,hx⟩
 refine ⟨hm,?_⟩
 cases hr:rowT e may it 512 ts with
 | no a c=>rw [hr] at hx;exact hx
 | ok xs r=>
  rw [hr] at hx
  obtain ⟨A,c,rfl,h1,h2⟩:=hx
  exact ⟨_,rfl,h1,A,c,rfl,h2.rows⟩
theorem part_any (e:Int) (R G:Nat) (ts:List Tok) (w:World) (h:RdX w R G ts e):Calls Tryz.prog 142 #[.pointer (some ⟨R,0,none⟩),.int .i64 78] w (Out R G e w none (VI 1 w.heap.size) (partT e ts)):=
 item_any 0 78 (.inl rfl) noRow noItem e R G (fun h=>by cases h) (fun h=>by cases h) ts w h
theorem parts_any (e:Int) (R G:Nat) (ts:List Tok) (w:World) (h:RdX w R G ts e):Calls Tryz.prog 143 #[.pointer (some ⟨R,0,none⟩),.slice none 0 0,.int .i64 78] w (Out R G e w none (VR 1 w.heap.size) (partsT e ts)):=
 row_nil 1 78 (.inl rfl) (partT e) e R G (part_any e R G) ts w h
theorem side_any (e:Int) (may:Nat) (hm:may=62∨may=60) (R G:Nat) (ts:List Tok) (w:World) (h:RdX w R G ts e):Calls Tryz.prog 142 #[.pointer (some ⟨R,0,none⟩),.int .i64 may] w (Out R G e w none (VI 2 w.heap.size) (sideT e may ts)):=
 item_any 1 may (hm.elim (fun h => .inr (.inl h)) (fun h => .inr (.inr (.inl h)))) (partsT e) noItem e R G (fun _=>parts_any e R G) (fun h=>by rcases hm with rfl | rfl <;> cases h) ts w h
theorem piece_any (e:Int) (R G:Nat) (ts:List Tok) (w:World) (h:RdX w R G ts e):Calls Tryz.prog 142 #[.pointer (some ⟨R,0,none⟩),.int .i64 386] w (Out R G e w none (VI 3 w.heap.size) (pieceT e ts)):=
 item_any 2 386 (.inr (.inr (.inr rfl))) noRow (sideT e 60) e R G (fun h=>by cases h) (fun _=>side_any e 60 (.inr rfl) R G) ts w h
theorem sides_any (e:Int) (R G:Nat) (ts:List Tok) (w:World) (h:RdX w R G ts e):Calls Tryz.prog 143 #[.pointer (some ⟨R,0,none⟩),.slice none 0 0,.int .i64 62] w (Out R G e w none (VR 2 w.heap.size) (sidesT e ts)):=
 row_nil 2 62 (.inr (.inl rfl)) (sideT e 62) e R G (side_any e 62 (.inl rfl) R G) ts w h
end Go.Proofs
