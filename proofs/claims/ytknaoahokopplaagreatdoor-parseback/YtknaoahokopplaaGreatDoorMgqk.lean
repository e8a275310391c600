/-
  Several texts in one (Jgk Jhk).
-/
import Derived.Shelf.Abstract
import Derived.WalkKit
import Derived.WalkSpells
import Derived.WalkLawsBesides
import Derived.BigQuiet
import Derived.Deep.QuietTactic
import Derived.Deep.LoopGhost
import Derived.WalkMore
import Derived.Test.YtknaoahokopplaaGreatDoorJfk
namespace Go.Proofs
open Go.RowKit Go.Shelf
set_option maxRecDepth 100000
attribute [local go_sem] Oper.semAt_some
theorem begun_cases (n:Int):begun n=0∨begun n=1∨begun n=2∨begun n=3∨begun n=4∨begun n=5∨begun n=7:=by
 unfold begun
 split
 · omega
 · split
   · omega
   · split
     · omega
     · split
       · omega
       · split
         · omega
         · split <;> omega
theorem may_zero {m:Nat} (h:may4 m):m.testBit 0=false:=by
 rcases h with rfl | rfl | rfl | rfl <;> rfl
theorem item_any (d may:Nat) (hmay:may4 may) (sets:List Tok→Res (List It)) (pairs:List Tok→Res It) (e:Int) (R G:Nat)
 (hsets:may.testBit 5=true→∀ ts w,RdX w R G ts e→Calls Tryz.prog 143 #[.pointer (some ⟨R,0,none⟩),.slice none 0 0,.int .i64 78] w (Out R G e w none (VR d w.heap.size) (sets ts)))
 (hpairs:may.testBit 7=true→∀ ts w,RdX w R G ts e→Calls Tryz.prog 142 #[.pointer (some ⟨R,0,none⟩),.int .i64 60] w (Out R G e w none (VI d w.heap.size) (pairs ts)))
 (ts:List Tok) (w:World) (h:RdX w R G ts e):Calls Tryz.prog 142 #[.pointer (some ⟨R,0,none⟩),.int .i64 may] w (Out R G e w none (VI (d+1) w.heap.size) (itemT e may sets pairs ts)):=by
 by_cases hb:may.testBit (begun (nxt ts))=true
 · cases ts with
   | nil=>
    have:=may_zero hmay
    simp [nxt,begun,this] at hb
   | cons t r=>
    have hi:itemT e may sets pairs (t::r)=restT e may sets pairs t r:=by
     simp only [nxt] at hb
     simp [itemT,hb]
    have hg:GoodT t:=by
     obtain ⟨o,c,h⟩:=h
     exact h.good t (List.mem_cons_self ..)
    rw [hi]
    simp only [nxt] at hb
    rcases begun_cases (which t) with hk | hk | hk | hk | hk | hk | hk <;> rw [hk] at hb
    · rw [may_zero hmay] at hb;cases hb
    · by_cases h6:may.testBit 6=true
      · by_cases h20:nxt r=20
        · have:restT e may sets pairs t r=upToT e t r.tail:=by simp [restT,hk,h6,h20]
          rw [this]
          exact item_1c may hmay d w R G t r e h hk hb h6 h20
        · have:restT e may sets pairs t r = .ok (.mk 1 t.u ⟨#[]⟩ [] 0 0 false 0) r:=by simp [restT,hk,h20]
          rw [this]
          exact item_1b may hmay d w R G t r e h hk hb h6 h20
      · have h6:may.testBit 6=false:=by simpa using h6
        have:restT e may sets pairs t r = .ok (.mk 1 t.u ⟨#[]⟩ [] 0 0 false 0) r:=by simp [restT,hk,h6]
        rw [this]
        exact item_1a may hmay d w R G t r e h hk hb h6
    · have:restT e may sets pairs t r = .ok (.mk 2 0 (bareN t) [] 0 0 false 0) r:=by simp [restT,hk]
      rw [this]
      exact item_2 may hmay d w R G t r e h hg hk hb
    · have:restT e may sets pairs t r = .ok (.mk 3 0 (bareN t) [] 0 0 false 0) r:=by simp [restT,hk]
      rw [this]
      exact item_3 may hmay d w R G t r e h hg hk hb
    · have:restT e may sets pairs t r = .ok (.mk 4 0 ⟨#[]⟩ [] 0 0 false 0) r:=by simp [restT,hk]
      rw [this]
      exact item_4 may hmay d w R G t r e h hk hb
    · have:restT e may sets pairs t r=(sets (passT 15 r).2).bind fun ps r2=>(wantT e 19 r2).bind fun _ r3 => .ok (.mk 5 0 ⟨#[]⟩ ps 0 0 (passT 15 r).1 0) r3:=by simp [restT,hk]
      rw [this]
      exact item_5 may hmay d w R G t r e h hk hb _ (fun w hw=>hsets hb _ w hw)
    · by_cases h22:nxt r=22
      · have:restT e may sets pairs t r=(pairs r.tail).bind fun x r2 => .ok (.mk 8 0 ⟨#[]⟩ [x] 0 0 false t.n) r2:=by simp [restT,hk,h22]
        rw [this]
        exact item_7b may hmay d w R G t r e h hk hb h22 _ (fun w hw=>hpairs hb _ w hw)
      · have:restT e may sets pairs t r = .ok (.mk 7 0 ⟨#[]⟩ [] 0 0 false t.n) r:=by simp [restT,hk,h22]
        rw [this]
        exact item_7a may hmay d w R G t r e h hk hb h22
 · exact item_no may hmay sets pairs _ w R G ts e h (by simpa using hb)
def lenOf:Value→Nat
 | .slice _ n _=>n
 | _=>0
def RowOut (d:Nat) (e:Int) (R G b:Nat) (w:World) (y:Option Nat) (l:List It) (s:Res (List It)) (x:Ending) (w':World):Prop:=
 Mv w w' R y∧match s with
 | .ok xs r=>∃ A c,x = .returned (.slice A (l++xs).length c)∧RdX w' R G r e∧OwnI d w' b (.slice A (l++xs).length c) (l++xs)
 | .no a c=>x=thrown a c
def RowRel (d may:Nat) (it:List Tok→Res It) (e:Int) (R G b:Nat) (w:World) (v:Value) (l:List It) (n:Nat) (ts:List Tok) (vr:Value) (wr:World):Prop:=
 ∃ n1 ts1 pre,(l++pre).length+n1=512∧RdX wr R G ts1 e∧OwnI d wr b vr (l++pre)∧Mv w wr R v.ownBlock∧(vr.ownBlock=v.ownBlock∨∀ g,vr.ownBlock=some g→w.heap.size≤g) ∧
  rowT e may it n ts=match rowT e may it n1 ts1 with | .ok xs r => .ok (pre++xs) r | .no a c => .no a c
set_option maxHeartbeats 1000000 in
theorem row_any (d may:Nat) (hmay:may4 may) (it:List Tok→Res It) (e:Int) (R G b:Nat) (hRb:R<b) (hGb:G<b)
 (hit:∀ ts w,RdX w R G ts e→Calls Tryz.prog 142 #[.pointer (some ⟨R,0,none⟩),.int .i64 may] w (Out R G e w none (VI d w.heap.size) (it ts)))
 (n:Nat) (ts:List Tok) (w:World) (v:Value) (l:List It) (h:RdX w R G ts e) (hO:OwnI d w b v l) (hn:l.length+n=512) (hb:b≤w.heap.size) :
 Calls Tryz.prog 143 #[.pointer (some ⟨R,0,none⟩),v,.int .i64 may] w (RowOut d e R G b w v.ownBlock l (rowT e may it n ts)):=by
 have H:Hid (RdX w R G ts e∧OwnI d w b v l∧may4 may):=⟨h,hO,hmay⟩
 have HI:Hid (∀ ts w,RdX w R G ts e→Calls Tryz.prog 142 #[.pointer (some ⟨R,0,none⟩),.int .i64 may] w (Out R G e w none (VI d w.heap.size) (it ts))):=hit
 clear h hO hmay hit
 have h0:Hid (RowRel d may it e R G b w v l n ts v w):=⟨n,ts,[],by simpa using hn,H.out.1,by simpa using H.out.2.1,Mv.refl _ _ _,.inl rfl,by cases rowT e may it n ts <;> simp⟩
 have HM:Hid (may4 may):=H.out.2.2
 clear H
 go_enter Tryz.func143,Tryz.ntmps143
 go_wp2
 go_loopw [1] (fun vr wr=>Hid (RowRel d may it e R G b w v l n ts vr wr)) (fun vr _=>512 - lenOf vr)
 case atStart=>exact h0
 case round=>
  obtain ⟨n1,ts1,pre,hn1,hR1,hO1,hM1,hv1,hT1⟩:=hrel.out
  clear hrel h0
  have hl1:=hM1.size
  obtain ⟨A1,c1,rfl⟩:=hO1.form
  have HR:Hid (RdX wr R G ts1 e):=hR1
  have HO:Hid (OwnI d wr b (.slice A1 (l++pre).length c1) (l++pre)):=hO1
  have HV:Hid (Mv w wr R v.ownBlock∧((Value.slice A1 (l++pre).length c1).ownBlock=v.ownBlock∨∀ g,(Value.slice A1 (l++pre).length c1).ownBlock=some g→w.heap.size≤g)):=⟨hM1,hv1⟩
  have HT:Hid (rowT e may it n ts=match rowT e may it n1 ts1 with | .ok xs r => .ok (pre++xs) r | .no a c => .no a c):=hT1
  have hln:(l++pre).length+n1=512:=hn1
  clear hR1 hO1 hM1 hv1 hT1 hn1
  obtain ⟨len,hlen⟩:∃ len,(l++pre).length=len:=⟨_,rfl⟩
  rw [hlen] at HO HV hln ⊢
  by_cases hb1:may.testBit (begun (nxt ts1))=true
  · cases n1 with
    | zero=>
     have hL:len=512:=by omega
     subst hL
     have ho:Hid (rowT e may it n ts = .no (atOf e ts1) 52):=by show _=_;rw [HT.out];simp [rowT,hb1]
     go_wp2_with (first | (go_at_call 167;refine (begun_any _ R G ts1 e HR.out).mono ?_;rintro x w1 ⟨rfl,hb2⟩) | (go_at_call 168;refine (has_any may _ HM.out (begun_le _) _).mono ?_;rintro x w2 ⟨rfl,rfl⟩;rw [hb1]) | (go_at_call 144;refine (refuse_any _ R G 52 ts1 e (HR.out.below hb2 (Nat.le_refl _))).mono ?_;rintro x w3 ⟨rfl,hb3⟩))
     refine ⟨rfl,?_⟩
     rw [ho.out]
     exact ⟨(HV.out.1.and (Mv.of_below hb2)).and (Mv.of_below hb3),rfl⟩
    | succ n2=>
     have hne:((len:Int) == 512)=false:=by simp;omega
     go_wp2_with (first | (go_at_call 167;refine (begun_any _ R G ts1 e HR.out).mono ?_;rintro x w1 ⟨rfl,hb2⟩) | (go_at_call 168;refine (has_any may _ HM.out (begun_le _) _).mono ?_;rintro x w2 ⟨rfl,rfl⟩;rw [hb1]) | fail)
     refine (HI.out ts1 _ (HR.out.below hb2 (Nat.le_refl _))).mono ?_
     rintro x w3 ⟨hm3,hx⟩
     obtain ⟨U,hU⟩:∃ U,it ts1=U:=⟨_,rfl⟩
     rw [hU] at hx
     have hmv:Mv w w3 R v.ownBlock:=(HV.out.1.and (Mv.of_below hb2)).and hm3
     cases U with
     | no a c=>
      simp only at hx
      subst hx
      have ho:rowT e may it n ts = .no a c:=by rw [HT.out];simp [rowT,hb1,hU,Res.bind]
      refine ⟨rfl,?_⟩
      rw [ho]
      exact ⟨hmv,rfl⟩
     | ok i r2=>
      obtain ⟨y,rfl,hR3,m,rfl,hD⟩:=hx
      have ho:rowT e may it n ts=match rowT e may it n2 r2 with | .ok xs r => .ok ((pre++[i])++xs) r | .no a c => .no a c:=by
       rw [HT.out]
       simp only [rowT,hb1,hU,Res.bind,if_true]
       cases rowT e may it n2 r2 <;> simp
      have hO3:OwnI d w3 b (.slice A1 len c1) (l++pre):=(HO.out.step (fun k h1 _=>hb2.block k h1)).step (fun k h1 h2=>hm3.block k h1 (by omega) (by simp))
      have hO4:=hO3.step (w':=w3.alloc (.cells (mi1 m).toArray 58)) (fun k h1 _=>Below.heap_alloc _ _ _ h1)
      have hD4:DR d (w3.alloc (.cells (mi1 m).toArray 58)) b (Value.slice A1 len c1).ownBlock m i:=hD.step (by have:=hb2.size;omega) (.inr (.inr fun g e => .inr (by
       have:=(HO.out.lt g e).2
       have:=hb2.size
       omega))) (fun k h1 _ _=>Below.heap_alloc _ _ _ h1)
      have HH:Hid (OwnI d (w3.alloc (.cells (mi1 m).toArray 58)) b (.slice A1 len c1) (l++pre)∧DR d (w3.alloc (.cells (mi1 m).toArray 58)) b (Value.slice A1 len c1).ownBlock m i∧Mv w w3 R v.ownBlock∧RdX w3 R G r2 e):=⟨hO4,hD4,hmv,hR3⟩
      have HQ:Hid (rowT e may it n ts=match rowT e may it n2 r2 with | .ok xs r => .ok ((pre++[i])++xs) r | .no a c => .no a c):=ho
      have hz3:b≤w3.heap.size:=by have:=hmv.size;omega
      clear hO3 hO4 hD4 hmv hR3 hD hm3 ho hU hb2
      go_wp2_with (at_builtin;go_must (refine push_I rfl _ _ 42 rfl Tryz.underlying42 d b _ (l++pre) rfl HH.out.1 w3.heap.size 1 m i rfl (World.alloc_heap_new _ _) HH.out.2.1 (by omega) (by simp;omega) ?_);intro A4 c4 w4 hO5 hgr hat;rw [hlen] at hO5 hat ⊢)
      have hown:=HH.out.1.lt
      have hRo:some R≠(Value.slice A1 len c1).ownBlock:=fun e=>by have:=(hown R e.symm).1;omega
      have hGo:some G≠(Value.slice A1 len c1).ownBlock:=fun e=>by have:=(hown G e.symm).1;omega
      refine ⟨⟨n2,r2,pre++[i],?_,(HH.out.2.2.2.alloc _).grown hgr hRo hGo,?_,?_,?_,HQ.out⟩,by simp only [lenOf];omega⟩
      · simp at hlen ⊢;omega
      · rw [←List.append_assoc];exact hO5
      · exact (HH.out.2.2.1.alloc _).trans (Mv.of_grown hgr) HV.out.2
      · rcases hat with e | e
        · rw [e];exact HV.out.2
        · right
          intro g e2
          rw [e] at e2
          have:=Option.some.inj e2
          have:=HH.out.2.2.1.size
          simp at *
          omega
  · have hb1:may.testBit (begun (nxt ts1))=false:=by simpa using hb1
    have ho:Hid (rowT e may it n ts = .ok pre ts1):=by
     show _=_
     rw [HT.out]
     cases n1 <;> simp [rowT,hb1]
    go_wp2_with (first | (go_at_call 167;refine (begun_any _ R G ts1 e HR.out).mono ?_;rintro x w1 ⟨rfl,hb2⟩) | (go_at_call 168;refine (has_any may _ HM.out (begun_le _) _).mono ?_;rintro x w2 ⟨rfl,rfl⟩;rw [hb1]) | fail)
    go_ret
    rw [ho.out]
    refine ⟨HV.out.1.and (Mv.of_below hb2),A1,c1,?_,HR.out.below hb2 (Nat.le_refl _),?_⟩
    · rw [hlen];rfl
    · rw [hlen]
      exact HO.out.step (fun k h1 _=>hb2.block k h1)
theorem row_nil (d may:Nat) (hmay:may4 may) (it:List Tok→Res It) (e:Int) (R G:Nat)
 (hit:∀ ts w,RdX w R G ts e→Calls Tryz.prog 142 #[.pointer (some ⟨R,0,none⟩),.int .i64 may] w (Out R G e w none (VI d w.heap.size) (it ts)))
 (ts:List Tok) (w:World) (h:RdX w R G ts e):Calls Tryz.prog 143 #[.pointer (some ⟨R,0,none⟩),.slice none 0 0,.int .i64 may] w (Out R G e w none (VR d w.heap.size) (rowT e may it 512 ts)):=by
 refine (row_any d may hmay it e R G w.heap.size h.lt.1 h.lt.2 hit 512 ts w (.slice none 0 0) [] h (OwnI.nil _ _ _) rfl (Nat.le_refl _)).mono ?_
 rintro x w' ⟨hm,hx⟩
 refine ⟨hm,?_⟩
 cases hr:rowT e may it 512 ts with
 | no a c=>rw [hr] at hx;exact hx
 | ok xs r=>
  rw [hr] at hx
  obtain ⟨A,c,rfl,h1,h2⟩:=hx
  exact ⟨_,rfl,h1,A,c,rfl,h2.rows⟩
theorem part_any (e:Int) (R G:Nat) (ts:List Tok) (w:World) (h:RdX w R G ts e):Calls Tryz.prog 142 #[.pointer (some ⟨R,0,none⟩),.int .i64 78] w (Out R G e w none (VI 1 w.heap.size) (partT e ts)):=
 item_any 0 78 (.inl rfl) noRow noItem e R G (fun h=>by cases h) (fun h=>by cases h) ts w h
theorem parts_any (e:Int) (R G:Nat) (ts:List Tok) (w:World) (h:RdX w R G ts e):Calls Tryz.prog 143 #[.pointer (some ⟨R,0,none⟩),.slice none 0 0,.int .i64 78] w (Out R G e w none (VR 1 w.heap.size) (partsT e ts)):=
 row_nil 1 78 (.inl rfl) (partT e) e R G (part_any e R G) ts w h
theorem side_any (e:Int) (may:Nat) (hm:may=62∨may=60) (R G:Nat) (ts:List Tok) (w:World) (h:RdX w R G ts e):Calls Tryz.prog 142 #[.pointer (some ⟨R,0,none⟩),.int .i64 may] w (Out R G e w none (VI 2 w.heap.size) (sideT e may ts)):=
 item_any 1 may (hm.elim (fun h => .inr (.inl h)) (fun h => .inr (.inr (.inl h)))) (partsT e) noItem e R G (fun _=>parts_any e R G) (fun h=>by rcases hm with rfl | rfl <;> cases h) ts w h
theorem piece_any (e:Int) (R G:Nat) (ts:List Tok) (w:World) (h:RdX w R G ts e):Calls Tryz.prog 142 #[.pointer (some ⟨R,0,none⟩),.int .i64 386] w (Out R G e w none (VI 3 w.heap.size) (pieceT e ts)):=
 item_any 2 386 (.inr (.inr (.inr rfl))) noRow (sideT e 60) e R G (fun h=>by cases h) (fun _=>side_any e 60 (.inr rfl) R G) ts w h
theorem sides_any (e:Int) (R G:Nat) (ts:List Tok) (w:World) (h:RdX w R G ts e):Calls Tryz.prog 143 #[.pointer (some ⟨R,0,none⟩),.slice none 0 0,.int .i64 62] w (Out R G e w none (VR 2 w.heap.size) (sidesT e ts)):=
 row_nil 2 62 (.inr (.inl rfl)) (sideT e 62) e R G (side_any e 62 (.inl rfl) R G) ts w h
end Go.Proofs
namespace Go.Proofs
open Go.RowKit Go.Shelf
set_option maxRecDepth 100000
attribute [local go_sem] Oper.semAt_some
structure SL where
 (A:Option Addr) (n c:Nat)
abbrev SL.v (s:SL):Value := .slice s.A s.n s.c
structure ML where
 (k a:Int) (t:ByteArray) (bg en:Bool) (s1 s2 s3 s4:SL) (cur:Int)
def ml1 (x:ML):List Value:=[.int .i64 x.k,.int .i64 x.a,.string x.t,.bool x.bg,.bool x.en,.slice x.s1.A x.s1.n x.s1.c,.slice x.s2.A x.s2.n x.s2.c,.slice x.s3.A x.s3.n x.s3.c,.slice x.s4.A x.s4.n x.s4.c,.int .i64 x.cur]
abbrev mla (x:ML):Value := .agg #[.int .i64 x.k,.int .i64 x.a,.string x.t,.bool x.bg,.bool x.en,.slice x.s1.A x.s1.n x.s1.c,.slice x.s2.A x.s2.n x.s2.c,.slice x.s3.A x.s3.n x.s3.c,.slice x.s4.A x.s4.n x.s4.c,.int .i64 x.cur]
abbrev noS:SL:=⟨none,0,0⟩
abbrev noL:ML:=⟨0,0,⟨#[]⟩,false,false,noS,noS,noS,noS,0⟩
def PlainL (m:ML) (l:Ln):Prop:=m.k=l.k∧m.a=l.a∧m.t=l.t∧m.bg=l.bg∧m.en=l.en∧m.cur=l.cur
def RowsS (d:Nat) (w:World) (b:Nat) (x:Option Nat) (s:SL) (l:List It):Prop:=Rows d w b x s.A s.n s.c l
def LR (d:Nat) (w:World) (b:Nat) (x:Option Nat) (m:ML) (l:Ln):Prop:=PlainL m l∧RowsS d w b x m.s1 l.ante∧RowsS d w b x m.s2 l.key∧RowsS d w b x m.s3 l.post∧RowsS d w b x m.s4 l.res
theorem RowsS.step {w w':World} {b b':Nat} {x x':Option Nat} (hb:b'≤b) (hx:x'=x∨x'=none∨∀ g,x'=some g→w.heap.size≤g∨g<b)
 (hw:∀ k,k<w.heap.size→b≤k→some k≠x→w'.heap[k]? = w.heap[k]?) {d:Nat} {s:SL} {l:List It} (h:RowsS d w b x s l):RowsS d w' b' x' s l:=Rows.step hb hx hw h
theorem RowsS.nil (d:Nat) (w:World) (b:Nat) (x:Option Nat):RowsS d w b x noS []:=Rows.nil d w b x
theorem LR.step {w w':World} {b b':Nat} {x x':Option Nat} (hb:b'≤b) (hx:x'=x∨x'=none∨∀ g,x'=some g→w.heap.size≤g∨g<b)
 (hw:∀ k,k<w.heap.size→b≤k→some k≠x→w'.heap[k]? = w.heap[k]?) {d:Nat} {m:ML} {l:Ln} (h:LR d w b x m l):LR d w' b' x' m l:=
 ⟨h.1,h.2.1.step hb hx hw,h.2.2.1.step hb hx hw,h.2.2.2.1.step hb hx hw,h.2.2.2.2.step hb hx hw⟩
def LB (W:World) (B:Nat) (m:ML):Prop:=W.heap[B]? = some (.cells (ml1 m).toArray 44 (0,0))
theorem LB.lt {W:World} {B:Nat} {m:ML} (h:LB W B m):B<W.heap.size:=(Array.getElem?_eq_some_iff.1 h).1
theorem LB.same {W W':World} {B:Nat} {m:ML} (h:LB W B m) (hb:W'.heap[B]? = W.heap[B]?):LB W' B m:=hb.trans h
theorem LB.mv {W W':World} {B R:Nat} {y:Option Nat} {m:ML} (h:LB W B m) (hm:Mv W W' R y) (hR:B≠R) (hy:some B≠y):LB W' B m:=(hm.block B h.lt hR hy).trans h
theorem LB.allocs {W:World} {B:Nat} {m:ML} (h:LB W B m) (o:Obj):LB (W.alloc o) B m:=(Below.heap_alloc _ _ _ h.lt).trans h
theorem LB.new (W:World) (m:ML):LB (W.alloc (.cells (ml1 m).toArray 44)) W.heap.size m:=World.alloc_heap_new _ _
theorem LB.put {W:World} {B:Nat} {m m':ML} (h:LB W B m) (j:Nat) (v:Value) (hv:(ml1 m).toArray.setIfInBounds j v=(ml1 m').toArray):LB (W.setCell ⟨B,j,none⟩ v) B m':=by
 have:=cells_setS (j:=j) (u:=v) h
 rw [hv] at this
 exact this
theorem LB.cells {W:World} {B:Nat} {m:ML} (h:LB W B m) :
 W.cell? ⟨B,0,none⟩=some (.int .i64 m.k)∧W.cell? ⟨B,1,none⟩=some (.int .i64 m.a)∧W.cell? ⟨B,2,none⟩=some (.string m.t)∧W.cell? ⟨B,3,none⟩=some (.bool m.bg)∧W.cell? ⟨B,4,none⟩=some (.bool m.en)∧W.cell? ⟨B,5,none⟩=some (.slice m.s1.A m.s1.n m.s1.c)∧W.cell? ⟨B,6,none⟩=some (.slice m.s2.A m.s2.n m.s2.c)∧W.cell? ⟨B,7,none⟩=some (.slice m.s3.A m.s3.n m.s3.c)∧W.cell? ⟨B,8,none⟩=some (.slice m.s4.A m.s4.n m.s4.c)∧W.cell? ⟨B,9,none⟩=some (.int .i64 m.cur):=by
 simp [World.cell?,show W.heap[B]? = _ from h,ml1]
theorem LB.frozen {W:World} {B:Nat} {m:ML} (h:LB W B m) :
 W.frozen? ⟨B,0,none⟩=false∧W.frozen? ⟨B,1,none⟩=false∧W.frozen? ⟨B,2,none⟩=false∧W.frozen? ⟨B,3,none⟩=false∧W.frozen? ⟨B,4,none⟩=false∧W.frozen? ⟨B,5,none⟩=false∧W.frozen? ⟨B,6,none⟩=false∧W.frozen? ⟨B,7,none⟩=false∧W.frozen? ⟨B,8,none⟩=false∧W.frozen? ⟨B,9,none⟩=false:=by
 simp [World.frozen?,show W.heap[B]? = _ from h]
abbrev set10 (W:World) (B:Nat) (m:ML):World:=(((((((((W.setCell ⟨B,0,none⟩ (.int .i64 m.k)).setCell ⟨B,1,none⟩ (.int .i64 m.a)).setCell ⟨B,2,none⟩ (.string m.t)).setCell ⟨B,3,none⟩ (.bool m.bg)).setCell ⟨B,4,none⟩ (.bool m.en)).setCell ⟨B,5,none⟩ (.slice m.s1.A m.s1.n m.s1.c)).setCell ⟨B,6,none⟩ (.slice m.s2.A m.s2.n m.s2.c)).setCell ⟨B,7,none⟩ (.slice m.s3.A m.s3.n m.s3.c)).setCell ⟨B,8,none⟩ (.slice m.s4.A m.s4.n m.s4.c)).setCell ⟨B,9,none⟩ (.int .i64 m.cur)
theorem LB.set {W:World} {B:Nat} {m:ML} (h:LB W B m) (m':ML):LB (set10 W B m') B m':=by
 have:=cells_setS (j:=9) (u := .int .i64 m'.cur) (cells_setS (j:=8) (u := .slice m'.s4.A m'.s4.n m'.s4.c) (cells_setS (j:=7) (u := .slice m'.s3.A m'.s3.n m'.s3.c) (cells_setS (j:=6) (u := .slice m'.s2.A m'.s2.n m'.s2.c) (cells_setS (j:=5) (u := .slice m'.s1.A m'.s1.n m'.s1.c) (cells_setS (j:=4) (u := .bool m'.en) (cells_setS (j:=3) (u := .bool m'.bg) (cells_setS (j:=2) (u := .string m'.t) (cells_setS (j:=1) (u := .int .i64 m'.a) (cells_setS (j:=0) (u := .int .i64 m'.k) h)))))))))
 simpa [LB,set10,ml1] using this
theorem set10_other (W:World) (B:Nat) (m:ML) {k:Nat} (hk:k≠B):(set10 W B m).heap[k]? = W.heap[k]? := by
 simp only [heap_set_other _ hk]
theorem Mv.set10 {a b:World} {R:Nat} {y:Option Nat} (h:Mv a b R y) {B:Nat} (hB:a.heap.size≤B) (m:ML):Mv a (Proofs.set10 b B m) R y:=
 (((((((((h.set (.inl hB) _ _).set (.inl hB) _ _).set (.inl hB) _ _).set (.inl hB) _ _).set (.inl hB) _ _).set (.inl hB) _ _).set (.inl hB) _ _).set (.inl hB) _ _).set (.inl hB) _ _).set (.inl hB) _ _
theorem RdX.set10 {w:World} {R G:Nat} {ts:List Tok} {e:Int} (h:RdX w R G ts e) {B:Nat} (h1:B≠R) (h2:B≠G) (m:ML):RdX (Proofs.set10 w B m) R G ts e:=
 (((((((((h.set h1 h2 _ _).set h1 h2 _ _).set h1 h2 _ _).set h1 h2 _ _).set h1 h2 _ _).set h1 h2 _ _).set h1 h2 _ _).set h1 h2 _ _).set h1 h2 _ _).set h1 h2 _ _
theorem ret_ln {fn:Func} {p:Tmp} {W:World} {B:Nat} {tmps:Array Value} {m:ML} {Q:Ending→World→Prop} (hr:fn.results=#[.cell p 44]) (hp:tmps.getD p undef = .pointer (some ⟨B,0,none⟩)) (h:LB W B m)
 (K:Q (.returned (mla m)) W):bodyPost Tryz.prog fn Q Exit.ret { tmps:=tmps,defers:=[] } W:=by
 refine bodyPost_ret (v:=mla m) ?_ rfl K
 obtain ⟨c0,c1,c2,c3,c4,c5,c6,c7,c8,c9⟩:=h.cells
 rw [Array.getD_eq_getD_getElem?] at hp
 simp only [results,hr]
 simp [hp,go_sem,c0,c1,c2,c3,c4,c5,c6,c7,c8,c9]
def VL (d b:Nat) (w':World) (v:Value) (l:Ln):Prop:=∃ m,v=mla m∧LR d w' b none m l
structure LC (w w2:World) (R G:Nat) (r:List Tok) (e:Int):Prop where
 mv:Mv w w2 R none
 rd:RdX w2 R G r e
 res:LB w2 w.heap.size noL
 Rlt:R<w.heap.size
 Glt:G<w.heap.size
theorem LC.alloc {w w2:World} {R G:Nat} {r:List Tok} {e:Int} (h:LC w w2 R G r e) (o:Obj):LC w (w2.alloc o) R G r e:=⟨h.mv.alloc _,h.rd.alloc _,h.res.allocs _,h.Rlt,h.Glt⟩
theorem LC.after {w w2 w3:World} {R G:Nat} {r r':List Tok} {e:Int} (h:LC w w2 R G r e) (hm:Mv w2 w3 R none) (hr:RdX w3 R G r' e):LC w w3 R G r' e:=
 ⟨h.mv.and hm,hr,h.res.mv hm (by have:=h.Rlt;omega) (by simp),h.Rlt,h.Glt⟩
theorem LC.below {w w2 w3:World} {R G:Nat} {r:List Tok} {e:Int} (h:LC w w2 R G r e) (hm:Below w2.heap.size w2 w3):LC w w3 R G r e:=h.after (Mv.of_below hm) (h.rd.below hm (Nat.le_refl _))
theorem LC.put {w w2:World} {R G:Nat} {r:List Tok} {e:Int} (h:LC w w2 R G r e) {B:Nat} (hB:w.heap.size<B) (j:Nat) (v:Value):LC w (w2.setCell ⟨B,j,none⟩ v) R G r e:=
 ⟨h.mv.set (.inl (by omega)) _ _,h.rd.set (by have:=h.Rlt;omega) (by have:=h.Glt;omega) _ _,h.res.same (heap_set_other _ (by omega) _ _),h.Rlt,h.Glt⟩
theorem LC.start {w:World} {R G:Nat} {r:List Tok} {e:Int} (h:RdX w R G r e):LC w (w.alloc (.cells (ml1 noL).toArray 44)) R G r e:=⟨(Mv.refl _ _ _).alloc _,h.alloc _,LB.new _ _,h.lt.1,h.lt.2⟩
theorem LC.tell {w w2:World} {R G:Nat} {r:List Tok} {e:Int} (h:LC w w2 R G r e) {d:Nat} {m:ML} {l:Ln} (hd:LR d w2 (w.heap.size+1) none m l):LB (set10 w2 w.heap.size m) w.heap.size m∧Out R G e w none (VL d w.heap.size) (.ok l r) (.returned (mla m)) (set10 w2 w.heap.size m):=
 ⟨h.res.set m,h.mv.set10 (Nat.le_refl _) m,_,rfl,h.rd.set10 (by have:=h.Rlt;omega) (by have:=h.Glt;omega) m,m,rfl,hd.step (by omega) (.inl rfl) (fun k _ h2 _=>set10_other _ _ _ (by omega))⟩
set_option maxHeartbeats 1000000 in
theorem def_any (e:Int) (R G:Nat) (t:Tok) (ts:List Tok) (w:World) (h:RdX w R G (t::ts) e) (hw:which t=36):Calls Tryz.prog 101 #[.pointer (some ⟨R,0,none⟩)] w (Out R G e w none (VL 3 w.heap.size) (defT e t ts)):=by
 have hg:GoodT t:=by
  obtain ⟨o,c,h⟩:=h
  exact h.good t (List.mem_cons_self ..)
 have HG:Hid (GoodT t∧which t=36):=⟨hg,hw⟩
 have HC:Hid (LC w (w.alloc (.cells (ml1 noL).toArray 44)) R G (t::ts) e):=LC.start h
 clear h hg hw
 go_enter Tryz.func101,Tryz.ntmps101
 go_wp2_with fail
 refine (take_any _ R G t ts e HC.out.rd).mono ?_
 rintro x w1 ⟨rfl,hR1,hm1⟩
 have HC1:Hid (LC w w1 R G ts e):=HC.out.after hm1 hR1
 clear hm1 hR1 HC
 go_wp2_with fail
 refine (bareName_any t _ HG.out.1 (.inl HG.out.2)).mono ?_
 rintro x w2 ⟨rfl,hb2⟩
 have HC:Hid (LC w w2 R G ts e):=HC1.out.below hb2
 clear hb2 HC1
 go_wp2_with fail
 refine (want_any _ R G 21 (by decide) ts e HC.out.rd).mono ?_
 rintro x w3 ⟨hm3,hx⟩
 generalize hW:wantT e 21 ts=W at hx
 cases W with
 | no a c=>
  simp only at hx
  subst hx
  refine ⟨rfl,?_⟩
  rw [show defT e t ts = .no a c by simp [defT,hW,Res.bind]]
  exact ⟨HC.out.mv.and hm3,rfl⟩
 | ok u r=>
  obtain ⟨v,rfl,hR3,rfl⟩:=hx
  have HC3:Hid (LC w w3 R G r e):=HC.out.after hm3 hR3
  have HW:Hid (wantT e 21 ts = .ok u r):=hW
  clear hm3 hR3 HC hW
  go_wp2_with fail
  refine (side_any e 62 (.inl rfl) R G r _ HC3.out.rd).mono ?_
  rintro x w4 ⟨hm4,hx⟩
  generalize hS:sideT e 62 r=S at hx
  cases S with
  | no a c=>
   simp only at hx
   subst hx
   refine ⟨rfl,?_⟩
   rw [show defT e t ts = .no a c by simp [defT,HW.out,hS,Res.bind]]
   exact ⟨HC3.out.mv.and hm4,rfl⟩
  | ok i r2=>
   obtain ⟨v,rfl,hR4,m,rfl,hD⟩:=hx
   have hc:=HC3.out.after hm4 hR4
   have HH:Hid (LC w w4 R G r2 e∧DR 2 w4 w3.heap.size none m i∧w.heap.size+1≤w3.heap.size∧sideT e 62 r = .ok i r2):=⟨hc,hD,HC3.out.res.lt,hS⟩
   have s:=fun o=>((hc.alloc o).res).cells
   have s0:=fun o=>(s o).1
   have s1:=fun o=>(s o).2.1
   have s2:=fun o=>(s o).2.2.1
   have s3:=fun o=>(s o).2.2.2.1
   have s4:=fun o=>(s o).2.2.2.2.1
   have s5:=fun o=>(s o).2.2.2.2.2.1
   have s6:=fun o=>(s o).2.2.2.2.2.2.1
   have s7:=fun o=>(s o).2.2.2.2.2.2.2.1
   have s8:=fun o=>(s o).2.2.2.2.2.2.2.2.1
   have s9:=fun o=>(s o).2.2.2.2.2.2.2.2.2
   clear s
   have z:=fun o=>((hc.alloc o).res).frozen
   have z0:=fun o=>(z o).1
   have z1:=fun o=>(z o).2.1
   have z2:=fun o=>(z o).2.2.1
   have z3:=fun o=>(z o).2.2.2.1
   have z4:=fun o=>(z o).2.2.2.2.1
   have z5:=fun o=>(z o).2.2.2.2.2.1
   have z6:=fun o=>(z o).2.2.2.2.2.2.1
   have z7:=fun o=>(z o).2.2.2.2.2.2.2.1
   have z8:=fun o=>(z o).2.2.2.2.2.2.2.2.1
   have z9:=fun o=>(z o).2.2.2.2.2.2.2.2.2
   clear z
   clear hm4 hR4 hD hS hc HC3
   go_wp2
   obtain ⟨K1,K2⟩:=(HH.out.1.alloc (.cells (mi1 m).toArray 58)).tell (d:=3) (m:=⟨1,0,bareN t,false,false,noS,⟨some ⟨w4.heap.size,0,none⟩,1,1⟩,noS,noS,0⟩) (l:=⟨1,0,bareN t,false,false,[],[i],[],[],0⟩) ⟨⟨rfl,rfl,rfl,rfl,rfl,rfl⟩,RowsS.nil _ _ _ _,⟨[m],⟨rfl,.inr ⟨w4.heap.size,(mi1 m).toArray,rfl,by have:=HH.out.1.res.lt;omega,(fun e=>by cases e),World.alloc_heap_new _ _,Nat.le_refl _,(by show 1≤maxLen;decide),rfl,by simp [fi,mi1]⟩⟩,(HH.out.2.1.step HH.out.2.2.1 (.inl rfl) (fun k h1 _ _=>Below.heap_alloc _ _ _ h1)).up,trivial⟩,RowsS.nil _ _ _ _,RowsS.nil _ _ _ _⟩
   refine ret_ln rfl rfl K1 ?_
   rw [show defT e t ts = .ok ⟨1,0,bareN t,false,false,[],[i],[],[],0⟩ r2 by simp [defT,HW.out,HH.out.2.2.2,Res.bind]]
   exact K2
end Go.Proofs
