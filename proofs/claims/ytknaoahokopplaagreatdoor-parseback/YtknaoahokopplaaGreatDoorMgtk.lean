/-
  Several texts in one (Jnk Kmk).
-/
import Derived.Shelf.Abstract
import Derived.WalkKit
import Derived.WalkSpells
import Derived.WalkLawsBesides
import Derived.BigQuiet
import Derived.Deep.QuietTactic
import Derived.Deep.LoopGhost
import Derived.WalkMore
import Derived.Test.YtknaoahokopplaaGreatDoorMghk
import Derived.Test.YtknaoahokopplaaGreatDoorJlk
import Derived.Test.YtknaoahokopplaaGreatDoorMgmk
namespace Go.Proofs
open Go.RowKit Go.Shelf
set_option maxRecDepth 100000
attribute [local go_sem] Oper.semAt_some
theorem ft_at (l:List Tok) {j:Nat} {x:Tok} (hj:l[j]? = some x):(ft l)[j*6]? = some (.int .i64 x.k)∧(ft l)[j*6+1]? = some (.int .i64 x.a)∧(ft l)[j*6+2]? = some (.int .i64 x.l)∧(ft l)[j*6+3]? = some (.int .i64 x.u)∧(ft l)[j*6+4]? = some (.string x.t)∧(ft l)[j*6+5]? = some (.int .i64 x.n):=by
 induction l generalizing j with
 | nil=>simp at hj
 | cons a l ih=>
  cases j with
  | zero=>simp at hj;subst hj;simp [ft,tok1]
  | succ j=>
   have:=ih (j:=j) (by simpa using hj)
   rw [show (j+1)*6=j*6+6 by omega]
   simpa [ft,tok1] using this
theorem OwnT.tr {w:World} {base:Nat} {v:Value} {ts:List Tok} {e:Int} (h:OwnT w base v (ts++[sen e])) (hg:∀ t,t∈ts→GoodT t):∃ g c,v = .slice (some ⟨g,0,none⟩) (ts.length+1) c∧TR w g c ts e:=by
 rcases h.2 with ⟨rfl,h0⟩ | ⟨g,cap,cur,rfl,k1,k2,k3,k4,k5,k6⟩
 · simp at h0
 · rw [List.length_append] at *
   refine ⟨g,cap,rfl,⟨k3,k4⟩,fun j x hj => ?_,hg⟩
   have h1:∀ i u,(ft (ts++[sen e]))[i]? = some u→w.cell? ⟨g,i,none⟩=some u:=by
    intro i u hi
    rw [←k6,List.getElem?_take] at hi
    split at hi
    · simp only [World.cell?,k2]
      simpa using hi
    · cases hi
   obtain ⟨a0,a1,a2,a3,a4,a5⟩:=ft_at _ hj
   exact ⟨h1 _ _ a0,h1 _ _ a1,h1 _ _ a2,h1 _ _ a3,h1 _ _ a4,h1 _ _ a5⟩
theorem RowsL.step {w w':World} {b b':Nat} {v:Value} {l:List Ln} (h:RowsL w b v l) (hb:b'≤b) (hw:∀ k,k<w.heap.size→b≤k→w'.heap[k]? = w.heap[k]?):RowsL w' b' v l:=by
 obtain ⟨A,c,ms,e1,e2,e3⟩:=h
 refine ⟨A,c,ms,e1,e2.mono fun _ _ r=>r.step hb (.inl rfl) (fun k h1 h2 _=>hw k h1 h2),e3.imp id ?_⟩
 rintro ⟨g,cur,k1,k2,k3,k4⟩
 exact ⟨g,cur,k1,by omega,(hw g (Array.getElem?_eq_some_iff.1 k3).1 k2).trans k3,k4⟩
def PO (w:World) (e:Int) (toks:List Tok) (fa fe:Int) (x:Ending) (w':World):Prop:=
 if fe=0 then LinesOut w (linesT e toks.length toks) x w' else x = .returned (.tuple #[.slice none 0 0,.agg #[.int .i64 fa,.int .i64 fe]])∧Below w.heap.size w w'
set_option maxHeartbeats 1000000 in
theorem parse_run (s:ByteArray) (toks:List Tok) (fa:Nat) (fe:Int) (hs:s.size≤32768) (hR:Run s 0 true toks fa fe) (hg:∀ t,t∈toks→GoodT t) (hl:toks.length≤32768) (w:World) :
 Calls Tryz.prog 13 #[.string s] w (PO w s.size toks fa fe):=by
 have HR:Hid (Run s 0 true toks fa fe∧∀ t,t∈toks→GoodT t):=⟨hR,hg⟩
 clear hR hg
 go_enter Tryz.func13,Tryz.ntmps13
 go_wp2_with fail
 refine (scan_run s toks fa fe hs HR.out.1 _).mono ?_
 rintro x w1 ⟨v,rfl,hv,hb1⟩
 have hF1:FB w1 w.heap.size 0 0:=(FB.new w 0 0).below hb1 (by simp)
 have hB1:Below w.heap.size w w1:=((Below.refl _ w).alloc (Nat.le_refl _) _).trans (hb1.mono (by simp))
 by_cases hfe:fe=0
 · subst hfe
   rw [if_pos rfl] at hv
   have hv2:OwnT w1 (w.heap.size+1) v toks:=by
    rw [World.size_alloc] at hv
    exact hv
   obtain ⟨A,c,rfl⟩:=formT hv2
   have HO:Hid (OwnT w1 (w.heap.size+1) (.slice A toks.length c) toks∧FB w1 w.heap.size 0 0∧Below w.heap.size w w1):=⟨hv2,hF1,hB1⟩
   clear hv hv2 hb1 hF1 hB1
   have hY:Hid (TB ((w1.alloc (.cells #[.int .i64 fa,.int .i64 0] 32)).alloc (.cells #[.int .i64 0,.int .i64 s.size,.int .i64 0,.int .i64 0,.string ⟨#[]⟩,.int .i64 0] 52)) (w1.heap.size+1) 0 s.size 0 0 ⟨#[]⟩ 0):=by
    have:=TB.new (w1.alloc (.cells #[.int .i64 fa,.int .i64 0] 32)) 0 s.size 0 0 ⟨#[]⟩ 0
    rwa [World.size_alloc] at this
   go_wp2_with (first | (at_builtin;go_must (refine push_T rfl _ _ 47 rfl Tryz.underlying47 (w.heap.size+1) _ toks rfl ((HO.out.1.alloc _).alloc _) _ _ (sen s.size) rfl hY.out (by omega) (by have:=HO.out.2.1.lt;simp;omega) ?_);intro v' w3 hO3 hgr hb3) | fail)
   have hz1:=HO.out.2.1.lt
   have hF3:FB w3 w.heap.size 0 0:=(hgr.block w.heap.size (by simp;omega) (fun e=>by have:=(World.ownsRow.lt HO.out.1 _ e.symm).1;omega)).trans ((HO.out.2.1.allocs _).allocs _)
   have hB3:Below w.heap.size w w3:=((HO.out.2.2.alloc (by omega) _).alloc (by simp;omega) _).trans (hb3.mono (by omega))
   have hz3:w.heap.size<w3.heap.size:=hF3.lt
   obtain ⟨g,c2,rfl,hTR⟩:=hO3.tr HR.out.2
   refine (read_any s.size g c2 toks (by omega) w3 hTR).mono ?_
   rintro x w4 ⟨hb4,hx⟩
   have hF4:FB w4 w.heap.size 0 0:=hF3.below hb4 hz3
   have hB4:Below w.heap.size w w4:=hB3.trans (hb4.mono (by omega))
   have HX:Hid (FB w4 w.heap.size 0 0∧Below w.heap.size w w4):=⟨hF4,hB4⟩
   obtain ⟨c0,c1,c2,c3⟩:=hF4.cells
   clear hF4 hB4 hb4 hB3 hF3 hTR hO3 hgr hb3 hY HO hz1
   cases hS:linesT s.size toks.length toks with
   | no a ec=>
    rw [hS] at hx
    simp only at hx
    subst hx
    have HS:Hid (linesT s.size toks.length toks = .no a ec):=hS
    clear hS
    go_wp2
    have K:=HX.out.1.set a ec
    obtain ⟨d0,d1,-,-⟩:=K.cells
    refine bodyPost_ret (v := .tuple #[.slice none 0 0,.agg #[.int .i64 a,.int .i64 ec]]) (by simp [results,Tryz.f13,go_sem,d0,d1]) rfl ?_
    unfold PO
    rw [if_pos rfl,HS.out]
    exact ⟨(HX.out.2.setCell (p:=⟨w.heap.size,0,none⟩) (Nat.le_refl _) _).setCell (p:=⟨w.heap.size,1,none⟩) (Nat.le_refl _) _,rfl⟩
   | ok ls r=>
    rw [hS] at hx
    obtain ⟨v,rfl,hL⟩:=hx
    have HS:Hid (linesT s.size toks.length toks = .ok ls r∧RowsL w4 w3.heap.size v ls):=⟨hS,hL⟩
    clear hS hL
    go_wp2
    have K:=HX.out.1.set 0 0
    obtain ⟨d0,d1,-,-⟩:=K.cells
    refine bodyPost_ret (v := .tuple #[v,.agg #[.int .i64 0,.int .i64 0]]) (by simp [results,Tryz.f13,go_sem,d0,d1]) rfl ?_
    unfold PO
    rw [if_pos rfl,HS.out.1]
    exact ⟨(HX.out.2.setCell (p:=⟨w.heap.size,0,none⟩) (Nat.le_refl _) _).setCell (p:=⟨w.heap.size,1,none⟩) (Nat.le_refl _) _,v,rfl,HS.out.2.step (by omega) (fun k _ h2=>(heap_set_other _ (by omega) _ _).trans (heap_set_other _ (by omega) _ _))⟩
 · have hd:(fe != 0)=true:=by simpa using hfe
   rw [if_neg hfe] at hv
   subst hv
   have HB:Hid (Below w.heap.size w w1∧FB w1 w.heap.size 0 0):=⟨hB1,hF1⟩
   have c:=fun o=>(hF1.allocs o).cells
   have c0:=fun o=>(c o).1
   have c1:=fun o=>(c o).2.1
   have c2:=fun o=>(c o).2.2.1
   have c3:=fun o=>(c o).2.2.2
   clear c hb1 hF1 hB1
   go_wp2
   go_region
   all_goals go_wp2
   all_goals
    have K:=(HB.out.2.allocs (.cells #[.int .i64 fa,.int .i64 fe] 32)).set fa fe
    obtain ⟨d0,d1,-,-⟩:=K.cells
    refine bodyPost_ret (v := .tuple #[.slice none 0 0,.agg #[.int .i64 fa,.int .i64 fe]]) (by simp [results,Tryz.f13,go_sem,d0,d1]) rfl ?_
    unfold PO
    rw [if_neg hfe]
    have hb:=((HB.out.1.alloc HB.out.1.size (.cells #[.int .i64 fa,.int .i64 fe] 32)).setCell (p:=⟨w.heap.size,0,none⟩) (Nat.le_refl _) (.int .i64 fa)).setCell (p:=⟨w.heap.size,1,none⟩) (Nat.le_refl _) (.int .i64 fe)
    exact ⟨rfl,hb.os,hb.tape,hb.output,hb.size,hb.block⟩
end Go.Proofs
namespace Go.Proofs
open Go.RowKit Go.Shelf
set_option maxRecDepth 100000
theorem enc_ascii (n:Nat) (h:n<128):(Utf8.encode (n:Int)).data.toList=[UInt8.ofNat n]:=by
 have hv:Utf8.valid (n:Int)=true:=by unfold Utf8.valid;simp;omega
 unfold Utf8.encode
 simp [hv,h]
theorem ascii_at (r:ByteArray) (h0:0<r.size) (h:uAt r 0<128):uAt r 0=r[0].toNat:=by
 have h1:=put_uAt r 0 h0
 rw [put_rune (by omega),enc_ascii _ h,drop_at h0] at h1
 have hw:=uw_pos r 0
 obtain ⟨k,hk⟩:∃ k,uw r 0=k+1:=⟨uw r 0 - 1,by omega⟩
 rw [hk,List.take_succ_cons] at h1
 have h2:=(List.cons.inj h1).1
 rw [←h2,UInt8.toNat_ofNat']
 omega
theorem four_unit (r:ByteArray) (h0:0<r.size) (l:Nat) (hl:l≤r.size) (hm:l=min r.size 4):firstU (r.extract 0 l)=((uAt r 0:Int),(uw r 0:Int)):=by
 have hin:=uw_in r 0 h0
 have hpos:=uw_pos r 0
 have h4:=uw_le r 0
 have hz:=ext0_size r hl
 have hin2:=uw_in (r.extract 0 l) 0 (by omega)
 have:=same_at (s:=r) (t:=r.extract 0 l) (p:=0) (r:=0) (fun k _ h2=>get_ext r 0 l (0+k) (by omega) hl |>.trans (by rw [Nat.zero_add])) h0 (by omega) (by omega) (by omega)
 rw [firstU_at _ (by omega),this.1,this.2]
theorem pre_semi (l:List UInt8):Lib.hasPrefix l [59]=decide (l[0]? = some 59):=by
 rw [←Lib.hasPrefix_of_take]
 cases l with
 | nil=>rfl
 | cons c l=>simp;rfl
theorem rsv_44 (c:UInt8) (h1:rsv c.toNat=true) (h2:Lib.indexByte sgnL c = -1) (h3:c.toNat≠64) (h4:c.toNat≠92) (h5:c.toNat≠35):c.toNat=44:=by
 have hall:∀ n:Fin 256,rsv n.val=true→Lib.indexByte sgnL (UInt8.ofNat n.val) = -1→n.val≠64→n.val≠92→n.val≠35→n.val=44:=by decide +kernel
 exact hall ⟨c.toNat,c.toNat_lt⟩ h1 (by rw [UInt8.ofNat_toNat];exact h2) h3 h4 h5
theorem both_bare (s:ByteArray) (hs:s.size≤1000000) (q:Nat) (h:q<s.size) (fresh:Bool) (h36:s[q].toNat≠36) (hi:Lib.indexByte sgnL s[q] = -1) (h64:s[q].toNat≠64) (h92:s[q].toNat≠92) (h35:s[q].toNat≠35) (hp:Lib.hasPrefix (s.data.toList.drop q) [91,58]=false):Both s q fresh:=by
 obtain ⟨r,hr⟩:∃ r,s.extract q s.size=r:=⟨_,rfl⟩
 have hz:r.size=s.size - q:=by rw [←hr];exact ext_size s q
 have h0:0<r.size:=by omega
 have hsm:r.size≤maxLen:=by rw [hz];unfold maxLen;omega
 have hL:r.data.toList=s.data.toList.drop q:=by rw [←hr];exact ext_drop s q
 have hc:r[0]=s[q]:=by subst hr;exact ext_at0 h
 have hF:∀ w,Calls Tryz.prog 83 #[.string (s.extract q (min s.size (q+4)))] w fun e w'=>e = .returned (.tuple #[.int .i64 (uAt r 0),.int .i64 (uw r 0)])∧Below w.heap.size w w':=fun w=>by
  have e:=ext_front s q (min r.size 4)
  rw [hr,show q+min r.size 4=min s.size (q+4) by omega] at e
  have hsz:(s.extract q (min s.size (q+4))).size≤4398046511104:=by rw [ByteArray.size_extract];omega
  have:=rfirst_any (s.extract q (min s.size (q+4))) w hsz
  rw [←e,four_unit r h0 _ (by omega) rfl] at this
  rw [←e]
  exact this
 have hf:=firstU_at r h0
 have hle:q+uw r 0≤s.size:=by have:=uw_in r 0 h0;omega
 have hpos:=uw_pos r 0
 have hcc:s[q].toNat≠36∧s[q].toNat≠64∧s[q].toNat≠92:=⟨h36,h64,h92⟩
 have h1:r[0].toNat≠36:=by rw [hc];exact h36
 have h2:Lib.hasPrefix r.data.toList [91,58]=false:=by rw [hL];exact hp
 have h3:Lib.indexByte sgnL r[0] = -1:=by rw [hc];exact hi
 have h4:r[0].toNat≠64:=by rw [hc];exact h64
 have h5:r[0].toNat≠92:=by rw [hc];exact h92
 unfold Both
 rw [hr]
 obtain ⟨b,hb⟩:∃ b,Lib.hasPrefix (s.data.toList.drop q) [116,104,101,110]=b:=⟨_,rfl⟩
 obtain ⟨q2,hq2⟩:∃ q2,q+4+pastN false (s.data.toList.drop (q+4))=q2:=⟨_,rfl⟩
 obtain ⟨d,hd⟩:∃ d,Lib.hasPrefix (s.data.toList.drop q2) [59]=d:=⟨_,rfl⟩
 have hE:endsB r=(b && d):=by
  unfold endsB
  rw [hL,hb,←hd,pre_semi,List.drop_drop,List.getElem?_drop,List.getElem?_drop,←hq2,←Nat.add_assoc]
  simp only [Nat.add_zero]
 have hq4:b=true→q+4≤s.size:=fun e=>by
  rw [e] at hb
  have:=pre_len hb
  simp at this
  omega
 by_cases hth:fresh=true∧(b && d)=true
 · obtain ⟨rfl,he⟩:=hth
   simp only [Bool.and_eq_true] at he
   obtain ⟨rfl,rfl⟩:=he
   exact .inr ⟨2,4,0,_,0,first_then r hsm h0 h1 h2 h3 h4 h5 (by rw [hE];rfl),rtok_then s q q2 hs h hcc hp hi hb (hq4 rfl) hq2 hd,by omega,hq4 rfl⟩
 have to39:∀ (k a l u:Int) (t:ByteArray) (n e0:Int),Tells 93 #[.string r] k a l u t n e0→Tells 47 #[.string r,.bool fresh] k a l u t n e0:=fun k a l u t n e0 hT=>by
  cases fresh with
  | false=>exact first_bare r false k a l u t n e0 hsm h0 h1 h2 h3 h4 h5 rfl hT
  | true=>exact first_bare2 r k a l u t n e0 hsm h0 h1 h2 h3 h4 h5 (by rw [hE];simpa using hth) hT
 have bad:((1114112:Int)≤uAt r 0∨(uAt r 0:Int)<32∨(uAt r 0:Int)=127∨(uAt r 0:Int)=44)→Tells 45 #[.string s,.int .i64 q,.bool fresh] 0 0 0 0 ⟨#[]⟩ 0 40:=fun hu=>by
  cases fresh with
  | false=>exact rtok_bad0 s q _ _ hs h hcc hp hi hF hu
  | true=>
   cases b with
   | false=>exact rtok_bad1 s q _ _ hs h hcc hp hi hb hF hu
   | true=>
    obtain rfl:d=false:=by simpa using hth
    exact rtok_bad2 s q _ _ hs h hcc hp hi q2 hb (hq4 rfl) hq2 hd hF hu
 by_cases hlo:uAt r 0<32
 · exact .inl ⟨40,by decide,to39 0 0 0 0 ⟨#[]⟩ 0 40 (fun w=>bare_low r (uAt r 0) _ w hsm hf rfl hlo),bad (by omega)⟩
 by_cases h127:uAt r 0=127
 · refine .inl ⟨40,by decide,?_,bad (by omega)⟩
   rw [h127] at hf
   exact to39 0 0 0 0 ⟨#[]⟩ 0 40 (fun w=>bare_127 r _ w hsm hf rfl)
 by_cases hhi:1114111<uAt r 0
 · exact .inl ⟨40,by decide,to39 0 0 0 0 ⟨#[]⟩ 0 40 (fun w=>bare_high r (uAt r 0) _ w hsm hf rfl hhi),bad (by omega)⟩
 cases hv:rsv (uAt r 0)
 · have h44:uAt r 0≠44:=fun e=>by rw [e] at hv;revert hv;decide +kernel
   refine .inr ⟨1,uw r 0,uAt r 0,⟨#[]⟩,0,to39 1 0 _ _ ⟨#[]⟩ 0 0 (fun w=>bare_ok r (uAt r 0) _ w hsm hf (by omega) h127 (by omega) hv),?_,by omega,hle⟩
   cases fresh with
   | false=>exact rtok_bare0 s q _ _ hs h hcc hp hi hF (by omega) (by omega) (by omega) (by omega)
   | true=>
    cases b with
    | false=>exact rtok_bare1 s q _ _ hs h hcc hp hi hb hF (by omega) (by omega) (by omega) (by omega)
    | true=>
     obtain rfl:d=false:=by simpa using hth
     exact rtok_bare2 s q _ _ hs h hcc hp hi q2 hb (hq4 rfl) hq2 hd hF (by omega) (by omega) (by omega) (by omega)
 · have h128:uAt r 0<128:=by
    have:=hv
    unfold rsv at this
    simp only [Bool.and_eq_true,decide_eq_true_eq] at this
    exact this.1
   have ha:=ascii_at r h0 h128
   have h44:uAt r 0=44:=by
    rw [ha]
    rw [ha] at hv
    exact rsv_44 r[0] hv h3 h4 h5 (by rw [hc];exact h35)
   exact .inl ⟨40,by decide,to39 0 0 0 0 ⟨#[]⟩ 0 40 (fun w=>bare_rsv r (uAt r 0) _ w hsm hf hv (by omega) h127 (by omega)),bad (by omega)⟩
end Go.Proofs
