/-
  Several texts in one (Ke Kf Hc).
-/
import Derived.RangeFuncNested
import Derived.RangeFuncBound
import Derived.RangeFuncCalls
import Derived.RangeFuncLeaves
import Derived.Shelf.Abstract
import Derived.Shelf.RegionOpen
import Derived.WalkKit
import Derived.WalkSpells
import Derived.WalkLawsBesides
import Derived.OwnWalkIn
import Derived.TacticsInMore
import Derived.LoopNIn
import Derived.LoopIn
import Derived.BigQuiet
import Derived.RegionIn
import Derived.Deep.QuietTactic
import Derived.Deep.RegionWith
import Derived.Lib.OthersKept
import Derived.Maps.AppendAt
import Derived.Lib.SmallJoins
import Derived.Shelf.SlSortCmp.QuietGrown
import Derived.ArgAppend
import Derived.Below
import Derived.Deep.LoopGhost
import Derived.Laws.CopyOwn
import Derived.Laws.MakeOwn
import Derived.Lib.AppendStr
import Derived.Lib.ConvBytes
import Derived.Lib.IndexBytes
import Derived.Lib.ParseIntB
import Derived.RangeFuncBox
import Derived.WalkMore
import Derived.Shelf.Small.Utf8
import Derived.Test.YtaemgkemlifadaaGreatDoorMgfs
import Derived.Test.YtaemgkemlifadaaGreatDoorMgds
namespace Go.Proofs
open Go.RowKit Go.Shelf
set_option maxRecDepth 100000
attribute [local go_sem] Oper.semAt_some
attribute [local go_sem ↓] Go.wp_at_zero Go.wp_at_succ
def OwnU (w:World) (base:Nat) (v:Value) (l:List (Nat × Nat)):Prop:=w.ownsRow base 91 2 v l.length (flat l)
theorem info89:(Tryz.prog.info? 91).map (fun i=>(i.zero,i.size,i.bytes))=some (some (.agg #[.int .i64 0,.int .i64 0]),2,16):=by kernel_rfl
theorem flat_append (l r:List (Nat × Nat)):flat (l++r)=flat l++flat r:=by simp [flat]
theorem flat_at:∀ (l:List (Nat × Nat)) {j:Nat} {x:Nat × Nat},l[j]? = some x→(flat l)[j*2]? = some (.int .i64 x.1)∧(flat l)[j*2+1]? = some (.int .i64 x.2)
 | [],j,x,h=>by simp at h
 | y::l,0,x,h=>by simp at h;subst h;simp [flat]
 | y::l,j+1,x,h=>by
  have ih:=flat_at l (j:=j) (x:=x) (by simpa using h)
  have e:flat (y::l) = .int .i64 y.1 :: .int .i64 y.2::flat l:=by simp [flat]
  rw [e,show (j+1)*2=j*2+1+1 by omega]
  simpa using ih
theorem addr_zero (g j:Nat):(⟨g,0,none⟩:Addr).add j=⟨g,j,none⟩:=by
 unfold Addr.add
 by_cases h:j=0
 · subst h;rfl
 · simp [h]
theorem OwnU.at {w:World} {base g n cap:Nat} {l:List (Nat × Nat)} (h:OwnU w base (.slice (some ⟨g,0,none⟩) n cap) l) {j:Nat} {x:Nat × Nat} (hj:l[j]? = some x):w.cell? ⟨g,j*2,none⟩=some (.int .i64 x.1)∧w.cell? ⟨g,j*2+1,none⟩=some (.int .i64 x.2):=by
 have h1:=h.cells rfl
 have:=flat_at l hj
 have a1:=h1 _ _ this.1
 have a2:=h1 _ _ this.2
 rw [addr_zero] at a1 a2
 exact ⟨a1,a2⟩
theorem OwnU.alloc {w:World} {base:Nat} {v:Value} {l:List (Nat × Nat)} (h:OwnU w base v l) (o:Obj):OwnU (w.alloc o) base v l:=World.ownsRow.alloc h o
theorem OwnU.below {w w':World} {base n:Nat} {v:Value} {l:List (Nat × Nat)} (h:OwnU w base v l) (hb:Below n w w') (hn:w.heap.size≤n):OwnU w' base v l:=by
 refine ⟨h.1,?_⟩
 rcases h.2 with h | ⟨g,cap,cur,rfl,h1,h2,h3⟩
 · exact .inl h
 · have:g<w.heap.size:=(Array.getElem?_eq_some_iff.1 h2).1
   exact .inr ⟨g,cap,cur,rfl,h1,(hb.block g (by omega)).trans h2,h3⟩
theorem uinfo_parts {P:Program} {e:TypeId} {z:Value} {s b:Nat} (h:(P.info? e).map (fun i=>(i.zero,i.size,i.bytes))=some (some z,s,b)):∃ i,P.info? e=some i∧i.zero=some z∧i.size=s∧i.bytes=b:=by
 cases hi:P.info? e with
 | none=>rw [hi] at h;simp at h
 | some i=>rw [hi] at h;simp at h;exact ⟨i,rfl,h.1,h.2.1,h.2.2⟩
theorem push_U {ops:Array Oper} {rest:List Oper} {o:Oper} {a:Act} {Q:Exit→Act→World→Prop} {w:World} (hgd:o.guard=none) (s x:Operand)
 (ho:o.op = .call { callee := .builtin .append,args:=#[s,x],argTypes:=#[88,88] })
 (base:Nat) (v:Value) (l:List (Nat × Nat)) (hs:a.eval s=v) (hown:OwnU w base v l) (g c:Nat) (p q:Nat) (q':Int) (hqq:q'=(q:Int)) (hx:a.eval x = .slice (some ⟨g,0,none⟩) 1 c)
 (hp:w.cell? ⟨g,0,none⟩=some (.int .i64 p)) (hq:w.cell? ⟨g,1,none⟩=some (.int .i64 q')) (hl:l.length+1≤8796093022208) (hbase:base≤w.heap.size)
 (h:∀ v' w',OwnU w' base v' (l++[(p,q)])→Below base w w'→wpList Tryz.prog ops Q rest (a.put o.dst v') w'):wpList Tryz.prog ops Q (o::rest) a w:=by
 subst hqq
 obtain ⟨i0,hi,hz0,hz1,hz2⟩:=uinfo_parts info89
 refine wpList_append_own w hgd s x 88 ho base 91 i0 (.agg #[.int .i64 0,.int .i64 0]) 2 16 Tryz.underlying88 hi hz0 hz1 hz2 rfl (by decide) v l.length (flat l) hs hown ⟨g,0,none⟩ 1 c (flat [(p,q)]) hx rfl ?_ ?_ (by unfold maxLen;omega) (by omega) hbase (fun v' w' h2 h3 _=>h v' w' ?_ ((Below.refl _ w).grown h3 hbase (fun k hk=>(World.ownsRow.lt hown k hk).1)))
 · intro j u hj
   match j,hj with
   | 0,hj=>simp [flat] at hj;subst hj;exact hp
   | 1,hj=>simp [flat] at hj;subst hj;exact hq
 · intro u hu;simp [flat] at hu;rcases hu with rfl | rfl <;> rfl
 · unfold OwnU
   rw [flat_append,List.length_append]
   exact h2
theorem units_next (s:ByteArray) (p:Nat) (hp:p<s.size):unitsN s s.size p=(p,uAt s p)::unitsN s s.size (p+uw s p):=by
 obtain ⟨j,hj⟩:∃ j,s.size=j+1:=⟨s.size - 1,by omega⟩
 have h1:=unitsN_step s j p hp
 have hu:=uw_pos s p
 rw [←hj] at h1
 rw [h1,fuel s j s.size (p+uw s p) (by omega) (by omega)]
theorem units_len (s:ByteArray):(units s).length≤s.size:=units_len_N s _ _
theorem strayVal (s:ByteArray) (p:Nat) (hp:p<s.size):wrap64 (1114112+wrap64 (s[p].toNat:Int))=((1114112+(s.get! p).toNat:Nat):Int):=by
 have:=(s[p]).toNat_lt
 rw [w64b,get_bang s p hp,show (1114112:Int)+((s[p].toNat:Nat):Int)=((1114112+s[p].toNat:Nat):Int) by omega]
 exact IntWalk.wrap64_in _ (by omega)
set_option maxHeartbeats 4000000 in
theorem runits_any (s:ByteArray) (w:World) (hs:s.size≤4398046511104):Calls Tryz.prog 36 #[.string s] w fun e w'=>∃ v,e = .returned v∧OwnU w' w.heap.size v (units s)∧Below w.heap.size w w':=by
 have hsi:(s.size:Int)≤4398046511104:=by omega
 go_enter Tryz.func36,Tryz.ntmps36
 go_wp2
 go_loopw [3,4] (fun vo va wr=>∃ (p:Nat) (l:List (Nat × Nat)),va = .int .i64 p∧p≤s.size∧l.length≤p∧Hid (l++unitsN s s.size p=units s)∧OwnU wr w.heap.size vo l∧Below w.heap.size w wr) (fun _ va _=>s.size - (intOf va).toNat)
 case atStart=>exact ⟨0,[],rfl,by omega,by simp,rfl,World.ownsRow_lit w _ 0 (Nat.le_refl _) (by unfold maxLen;omega) rfl,(Below.refl _ w).alloc (Nat.le_refl _) _⟩
 case round=>
  obtain ⟨p,l,rfl,hp,hl,hU,hO,hB⟩:=hrel
  have HO:Hid (OwnU wr w.heap.size u3 l):=hO
  have HB:Hid (Below w.heap.size w wr):=hB
  clear hO hB
  by_cases hps:p=s.size
  · as_aux_lemma=>
     subst hps
     have e:l=units s:=by rw [←hU.out,unitsN_end s _ _ (by omega),List.append_nil]
     subst e
     clear hU
     go_wp2
     go_ret
     exact ⟨_,rfl,HO.out,HB.out⟩
  · have hlt:p<s.size:=by omega
    have hpi:(p:Int)<(s.size:Int):=by omega
    have hu:=uw_pos s p
    have hin:=uw_in s p hlt
    have HN:Hid ((l++[(p,uAt s p)])++unitsN s s.size (p+uw s p)=units s):=by
     show _=_
     rw [←hU.out,units_next s p hlt];simp
    have hux:=uAt_lt s p
    have HW:Hid (wd (uAt s p:Int)=(uw s p:Int)):=wd_uAt s p
    cases hst:strayAt s p with
    | true=>
     as_aux_lemma=>
      have HE:Hid (beginsU s p = -1):=by show _=_;rw [begins_eq s p hlt,hst];rfl
      have HA:Hid (1114112+(s.get! p).toNat=uAt s p):=(uAt_stray hst).symm
      clear hst hU
      generalize uAt s p=x at *
      generalize uw s p=d at *
      go_wp2_with fail
      refine (begins_any s p _ hlt hs).mono ?_
      rw [HE.out]
      rintro e w1 ⟨rfl,hb1⟩
      replace HO:Hid (OwnU w1 w.heap.size u3 l):=HO.out.below hb1 (Nat.le_refl _)
      replace HB:Hid (Below w.heap.size w w1):=HB.out.trans (hb1.mono HB.out.size)
      have hz:=HB.out.size
      clear hb1 HE
      go_wp2_with (at_builtin;go_must (refine push_U rfl _ _ rfl w.heap.size _ _ rfl (HO.out.alloc _) _ _ p x _ ((strayVal s p hlt).trans (by rw [HA.out])) rfl (by simp) (by simp) (by omega) (by simp;omega) ?_);intro v' w3 hO1 hb3)
      have HO1:Hid (OwnU w3 w.heap.size v' (l++[(p,x)])):=hO1
      have HB3:Hid (Below w.heap.size w w3):=(HB.out.alloc hz _).trans hb3
      clear hO1 hb3 HO HB
      go_wp2_with fail
      refine (rwidth_any _ _).mono ?_
      rw [strayVal s p hlt,HA.out,HW.out]
      rintro e w4 ⟨rfl,rfl⟩
      clear HA HW
      go_wp2
      exact ⟨⟨p+d,_,by go_num,by omega,by simp;omega,HN,HO1.out,HB3.out⟩,by simp [intOf];omega⟩
    | false=>
     as_aux_lemma=>
      have HE:Hid (beginsU s p=(uAt s p:Int)):=by show _=_;rw [begins_eq s p hlt,hst];rfl
      clear hst hU
      generalize uAt s p=x at *
      generalize uw s p=d at *
      clear hux
      have hz:=HB.out.size
      go_wp2_with fail
      refine (begins_any s p _ hlt hs).mono ?_
      rw [HE.out]
      rintro e w1 ⟨rfl,hb1⟩
      replace HO:Hid (OwnU w1 w.heap.size u3 l):=HO.out.below hb1 (Nat.le_refl _)
      replace HB:Hid (Below w.heap.size w w1):=HB.out.trans (hb1.mono HB.out.size)
      replace hz:=HB.out.size
      clear hb1 HE
      go_wp2_with (at_builtin;go_must (refine push_U rfl _ _ rfl w.heap.size _ _ rfl (HO.out.alloc _) _ _ p x _ rfl rfl (by simp) (by simp) (by omega) (by simp;omega) ?_);intro v' w3 hO1 hb3)
      have HO1:Hid (OwnU w3 w.heap.size v' (l++[(p,x)])):=hO1
      have HB3:Hid (Below w.heap.size w w3):=(HB.out.alloc hz _).trans hb3
      clear hO1 hb3 HO HB
      go_wp2_with fail
      refine (rwidth_any _ _).mono ?_
      rw [HW.out]
      rintro e w4 ⟨rfl,rfl⟩
      clear HW
      go_wp2
      exact ⟨⟨p+d,_,by go_num,by omega,by simp;omega,HN,HO1.out,HB3.out⟩,by simp [intOf];omega⟩
def OwnI1 (w:World) (base:Nat) (v:Value) (l:List Int):Prop:=w.ownsRow base 3 1 v l.length (l.map (Value.int .i64))
theorem OwnI1.alloc {w:World} {base:Nat} {v:Value} {l:List Int} (h:OwnI1 w base v l) (o:Obj):OwnI1 (w.alloc o) base v l:=World.ownsRow.alloc h o
theorem push_I1 {ops:Array Oper} {rest:List Oper} {o:Oper} {a:Act} {Q:Exit→Act→World→Prop} {w:World} (hgd:o.guard=none) (s x:Operand)
 (ho:o.op = .call { callee := .builtin .append,args:=#[s,x],argTypes:=#[38,38] })
 (base:Nat) (v:Value) (l:List Int) (hs:a.eval s=v) (hown:OwnI1 w base v l) (g c:Nat) (p:Int) (hx:a.eval x = .slice (some ⟨g,0,none⟩) 1 c)
 (hp:w.cell? ⟨g,0,none⟩=some (.int .i64 p)) (hl:l.length+1≤8796093022208) (hbase:base≤w.heap.size)
 (h:∀ v' w',OwnI1 w' base v' (l++[p])→Below base w w'→wpList Tryz.prog ops Q rest (a.put o.dst v') w'):wpList Tryz.prog ops Q (o::rest) a w:=by
 obtain ⟨i0,hi,hz0,hz1,hz2⟩:=uinfo_parts info3
 refine wpList_append_own w hgd s x 38 ho base 3 i0 (.int .i64 0) 1 8 Tryz.underlying38 hi hz0 hz1 hz2 rfl (by decide) v l.length _ hs hown ⟨g,0,none⟩ 1 c [.int .i64 p] hx rfl ?_ (by simp;rfl) (by unfold maxLen;omega) (by omega) hbase (fun v' w' h2 h3 _=>h v' w' ?_ ((Below.refl _ w).grown h3 hbase (fun k hk=>(World.ownsRow.lt hown k hk).1)))
 · intro j u hj
   match j,hj with
   | 0,hj=>simp at hj;subst hj;exact hp
 · unfold OwnI1
   rw [List.map_append,List.length_append]
   exact h2
def OwnI0 (w:World) (base:Nat) (v:Value) (l:List Int):Prop:=(∃ A,v = .slice A 0 0∧l=[])∨OwnI1 w base v l
theorem OwnI0.alloc {w:World} {base:Nat} {v:Value} {l:List Int} (h:OwnI0 w base v l) (o:Obj):OwnI0 (w.alloc o) base v l:=h.imp id fun h=>h.alloc o
theorem OwnI0.ir {w:World} {base:Nat} {v:Value} {l:List Int} (h:OwnI0 w base v l):IR w v l:=by
 rcases h with ⟨A,rfl,rfl⟩ | h
 · exact ⟨A,0,rfl,Nat.le_refl _,.inl rfl⟩
 · exact OwnI.ir h
theorem push_I0 {ops:Array Oper} {rest:List Oper} {o:Oper} {a:Act} {Q:Exit→Act→World→Prop} {w:World} (hgd:o.guard=none) (s x:Operand)
 (ho:o.op = .call { callee := .builtin .append,args:=#[s,x],argTypes:=#[38,38] })
 (base:Nat) (v:Value) (l:List Int) (hs:a.eval s=v) (hown:OwnI0 w base v l) (g c:Nat) (p:Int) (hx:a.eval x = .slice (some ⟨g,0,none⟩) 1 c)
 (hp:w.cell? ⟨g,0,none⟩=some (.int .i64 p)) (hl:l.length+1≤8796093022208) (hbase:base≤w.heap.size)
 (h:∀ v' w',OwnI0 w' base v' (l++[p])→Below base w w'→wpList Tryz.prog ops Q rest (a.put o.dst v') w'):wpList Tryz.prog ops Q (o::rest) a w:=by
 rcases hown with ⟨A,rfl,rfl⟩ | hown
 · obtain ⟨i0,hi,hz0,hz1,hz2⟩:=uinfo_parts info3
   refine wpList_append_grows w hgd s x 38 ho 3 i0 (.int .i64 0) 1 8 Tryz.underlying38 hi hz0 hz1 hz2 rfl (by decide) A 0 0 [] hs (fun _=>⟨rfl,rfl⟩) rfl (fun b _ j u hj=>by simp at hj) ⟨g,0,none⟩ 1 c [.int .i64 p] hx rfl ?_ (by simp;rfl) (by omega) (by unfold maxLen;omega) (by omega) (fun v' w' h2 h3=>h v' w' (.inr ?_) ((Below.refl _ w).grown h3 hbase (fun k hk=>by cases hk)))
   · intro j u hj
     match j,hj with
     | 0,hj=>simp at hj;subst hj;exact hp
   · exact Joins.ownsRow_le h2 hbase
 · exact push_I1 hgd s x ho base v l hs hown g c p hx hp hl hbase (fun v' w' h1 h2=>h v' w' (.inr h1) h2)
theorem intsU_at {l:List (Nat × Nat)} {i:Nat} {x:Nat × Nat} (h:l[i]? = some x):(intsU l).take (i+1)=(intsU l).take i++[(x.2:Int)]:=by
 obtain ⟨hlt,e⟩:=List.getElem?_eq_some_iff.1 h
 rw [List.take_succ_eq_append_getElem (by rw [intsU_length];exact hlt)]
 simp [intsU,e]
set_option maxHeartbeats 4000000 in
theorem rcut_any (s:ByteArray) (w:World) (hs:s.size≤4398046511104):Calls Tryz.prog 15 #[.string s] w fun e w'=>∃ v,e = .returned v∧IR w' v (intsU (units s))∧Below w.heap.size w w':=by
 have hul:=units_len s
 go_enter Tryz.func15,Tryz.ntmps15
 go_wp2_with fail
 refine (runits_any s _ hs).mono ?_
 rintro e w1 ⟨v,rfl,hO,hb⟩
 obtain ⟨A,n,cap,rfl,hn,hcells⟩:∃ A n cap,v = .slice A n cap∧n=(units s).length∧∀ j x,(units s)[j]? = some x→∃ g,A=some ⟨g,0,none⟩∧g<w1.heap.size∧w1.cell? ⟨g,j*2+1,none⟩=some (.int .i64 x.2)∧n≤cap:=by
  rcases hO.2 with ⟨rfl,h0⟩ | ⟨g,cap,cur,rfl,_,hh,hc,_⟩
  · have:units s=[]:=List.eq_nil_of_length_eq_zero h0
    exact ⟨none,0,0,rfl,by rw [this];rfl,fun j x h=>by rw [this] at h;simp at h⟩
  · exact ⟨_,_,cap,rfl,rfl,fun j x h=>⟨g,rfl,(Array.getElem?_eq_some_iff.1 hh).1,(OwnU.at hO h).2,hc⟩⟩
 have HC:Hid (∀ j x,(units s)[j]? = some x→∃ g,A=some ⟨g,0,none⟩∧g<w1.heap.size∧w1.cell? ⟨g,j*2+1,none⟩=some (.int .i64 x.2)∧n≤cap):=hcells
 have HN:Hid (n=(units s).length):=hn
 have hni:n≤4398046511104:=by omega
 have hb0:Below w.heap.size w w1:=by
  first | exact hb | exact ((Below.refl _ w).alloc (Nat.le_refl _) _).trans (hb.mono (by simp))
 have HB:Hid (Below w.heap.size w w1):=hb0
 have hz1:w.heap.size≤w1.heap.size:=hb0.size
 clear hcells hb hn hO hb0 hul
 go_wp2
 go_loopw [3,5] (fun vo vi wr=>∃ i:Nat,vi = .int .i64 i∧i≤n∧OwnI0 wr w1.heap.size vo ((intsU (units s)).take i)∧Below w1.heap.size w1 wr) (fun _ vi _=>n - (intOf vi).toNat)
 case atStart=>exact ⟨0,rfl,by omega,.inl ⟨_,rfl,rfl⟩,Below.refl _ _⟩
 case round=>
  obtain ⟨i,rfl,hi,hO,hW⟩:=hrel
  have hz:w1.heap.size≤wr.heap.size:=hW.size
  by_cases hin:i=n
  · as_aux_lemma=>
     have hni':=hin.symm
     subst hni'
     have HO:Hid (IR wr u3 (intsU (units s))):=by
      have:=hO.ir
      rw [List.take_of_length_le (by rw [intsU_length,HN.out];exact Nat.le_refl _)] at this
      exact this
     have HW:Hid (Below w1.heap.size w1 wr):=hW
     clear hO hW
     go_wp2
     go_ret
     exact ⟨_,rfl,HO.out,HB.out.trans (HW.out.mono hz1)⟩
  · as_aux_lemma=>
     obtain ⟨x,hx⟩:∃ x,(units s)[i]? = some x:=⟨_,List.getElem?_eq_getElem (by rw [←HN.out];omega)⟩
     obtain ⟨g,rfl,hg,hc,hcap⟩:=HC.out i x hx
     have hc':=(hW.cell (p:=⟨g,i*2+1,none⟩) hg).trans hc
     have HT:Hid ((intsU (units s)).take (i+1)=(intsU (units s)).take i++[(x.2:Int)]):=intsU_at hx
     have hlen:((intsU (units s)).take i).length=i:=by rw [List.length_take,intsU_length,←HN.out];omega
     have HO:Hid (OwnI0 wr w1.heap.size u3 ((intsU (units s)).take i)):=hO
     have HW:Hid (Below w1.heap.size w1 wr):=hW
     have HL:Hid (((intsU (units s)).take i).length=i):=hlen
     clear hx hc hO hW hlen
     go_wp2_with (at_builtin;go_must (refine push_I0 rfl _ _ rfl w1.heap.size _ _ rfl (HO.out.alloc _) _ _ (x.2:Int) rfl (by simp) (by rw [HL.out];omega) (by simp;omega) ?_);intro v' w3 hO1 hb3)
     exact ⟨⟨i+1,by go_num,by omega,by rw [HT.out];exact hO1,(HW.out.alloc hz _).trans hb3⟩,by simp [intOf];omega⟩
structure Srt (l m:List Int):Prop where
 p:m.Pairwise (· < ·)
 n:m.length≤l.length
 m:∀ x,x∈m↔x∈l
structure MJ (l a b o:List Int):Prop where
 pa:a.Pairwise (· < ·)
 pb:b.Pairwise (· < ·)
 po:o.Pairwise (· < ·)
 la:∀ x∈o,∀ y∈a,x<y
 lb:∀ x∈o,∀ y∈b,x<y
 m:∀ x,(x∈o∨x∈a∨x∈b)↔x∈l
 n:o.length+a.length+b.length≤l.length
theorem snoc_lt {o:List Int} {x:Int} (h:o.Pairwise (· < ·)) (k:∀ y∈o,y<x):(o++[x]).Pairwise (· < ·):=by
 rw [List.pairwise_append]
 exact ⟨h,List.pairwise_singleton _ _,fun a ha b hb=>by simp at hb;subst hb;exact k a ha⟩
theorem all_lt {x y:Int} {b:List Int} (h:(y::b).Pairwise (· < ·)) (hx:x<y):∀ z∈y::b,x<z:=by
 intro z hz
 rw [List.pairwise_cons] at h
 rcases List.mem_cons.1 hz with rfl | hz
 · exact hx
 · have:=h.1 z hz;omega
theorem MJ.left {l a b o:List Int} {x:Int} (h:MJ l (x::a) b o) (k:∀ y∈b,x<y):MJ l a b (o++[x]):=by
 have ha:=List.pairwise_cons.1 h.pa
 refine ⟨ha.2,h.pb,snoc_lt h.po (fun y hy=>h.la y hy x (by simp)),?_,?_,?_,?_⟩
 · intro z hz y hy
   rcases List.mem_append.1 hz with hz | hz
   · exact h.la z hz y (by simp [hy])
   · simp at hz;subst hz;exact ha.1 y hy
 · intro z hz y hy
   rcases List.mem_append.1 hz with hz | hz
   · exact h.lb z hz y hy
   · simp at hz;subst hz;exact k y hy
 · intro z
   rw [←h.m z]
   simp only [List.mem_append,List.mem_cons,List.not_mem_nil,or_false]
   constructor <;> (intro h;rcases h with h | h | h <;> first | (rcases h with h | h <;> simp [h];done) | (simp [h];done))
 · have:=h.n
   simp at this ⊢
   omega
theorem MJ.swap {l a b o:List Int} (h:MJ l a b o):MJ l b a o:=⟨h.pb,h.pa,h.po,h.lb,h.la,fun x=>by rw [←h.m x];constructor <;> (intro h;rcases h with h | h | h <;> simp [h]),by have:=h.n;omega⟩
theorem MJ.right {l a b o:List Int} {y:Int} (h:MJ l a (y::b) o) (k:∀ x∈a,y<x):MJ l a b (o++[y]):=(h.swap.left k).swap
theorem MJ.both {l a b o:List Int} {x:Int} (h:MJ l (x::a) (x::b) o):MJ l a b (o++[x]):=by
 have ha:=List.pairwise_cons.1 h.pa
 have hb:=List.pairwise_cons.1 h.pb
 refine ⟨ha.2,hb.2,snoc_lt h.po (fun y hy=>h.la y hy x (by simp)),?_,?_,?_,?_⟩
 · intro z hz y hy
   rcases List.mem_append.1 hz with hz | hz
   · exact h.la z hz y (by simp [hy])
   · simp at hz;subst hz;exact ha.1 y hy
 · intro z hz y hy
   rcases List.mem_append.1 hz with hz | hz
   · exact h.lb z hz y (by simp [hy])
   · simp at hz;subst hz;exact hb.1 y hy
 · intro z
   rw [←h.m z]
   simp only [List.mem_append,List.mem_cons,List.not_mem_nil,or_false]
   constructor
   · intro h;rcases h with (h | h) | h | h <;> simp [h]
   · intro h;rcases h with h | (h | h) | (h | h) <;> simp [h]
 · have:=h.n
   simp at this ⊢
   omega
theorem MJ.start {l a b:List Int} {n:Nat} (ha:Srt (l.take n) a) (hb:Srt (l.drop n) b):MJ l a b []:=by
 refine ⟨ha.p,hb.p,List.Pairwise.nil,by simp,by simp,?_,?_⟩
 · intro x
   rw [ha.m,hb.m]
   have e:x∈l↔x∈l.take n++l.drop n:=by rw [List.take_append_drop]
   rw [e,List.mem_append]
   simp
 · have:=ha.n
   have:=hb.n
   simp at *
   omega
theorem MJ.done {l o:List Int} (h:MJ l [] [] o):Srt l o:=⟨h.po,by have:=h.n;simp at this;omega,fun x=>by rw [←h.m x];simp⟩
theorem srt_small {l:List Int} (h:l.length<2):Srt l l:=by
 refine ⟨?_,Nat.le_refl _,fun _=>Iff.rfl⟩
 match l,h with
 | [],_=>exact List.Pairwise.nil
 | [x],_=>exact List.pairwise_singleton _ _
theorem ir_cons {w:World} {v:Value} {x:Int} {a:List Int} (h:IR w v (x::a)):∃ g o n c:Nat,v = .slice (some ⟨g,o,none⟩) n c∧n=a.length+1∧n≤c∧w.cell? ⟨g,o,none⟩=some (.int .i64 x)∧(c≠1→IR w (.slice (some ⟨g,o+1,none⟩) (n - 1) (c - 1)) a)∧(c=1→IR w (.slice (some ⟨g,o,none⟩) 0 0) a):=by
 obtain ⟨A,c,rfl,hc,hr⟩:=h
 obtain ⟨g,o,rfl,hd⟩:=hr.resolve_left (by simp)
 clear hr
 refine ⟨g,o,_,c,rfl,rfl,hc,?_,fun _=>⟨_,c - 1,by simp,by simp at hc;omega,.inr ⟨g,o+1,rfl,fun j hj => ?_⟩⟩,fun h1 => ?_⟩
 · exact hd 0 (by simp)
 · have:=hd (j+1) (by simpa using hj)
   rw [List.getElem_cons_succ] at this
   rw [←this,Nat.add_assoc,Nat.add_comm 1 j]
 · subst h1
   have:a=[]:=List.eq_nil_of_length_eq_zero (by rw [List.length_cons] at hc;omega)
   subst this
   exact ⟨_,0,rfl,Nat.le_refl _,.inl rfl⟩
theorem ir_nil {w:World} {v:Value} (h:IR w v []):∃ A c,v = .slice A 0 c:=by
 obtain ⟨A,c,rfl,_,_⟩:=h
 exact ⟨A,c,rfl⟩
theorem ir_take {w:World} {g o N c n:Nat} {l:List Int} (h:IR w (.slice (some ⟨g,o,none⟩) N c) l) (hn:n≤N):IR w (.slice (some ⟨g,o,none⟩) n c) (l.take n):=by
 obtain ⟨A,c',e,hc,hr⟩:=h
 injection e with e1 e2 e3
 subst e3
 have ht:(l.take n).length=n:=by rw [List.length_take];omega
 refine ⟨_,c,by rw [ht],by omega,?_⟩
 rcases hr with rfl | ⟨g',o',h1,hr⟩
 · exact .inl (by simp)
 · rw [←e1] at h1
   injection h1 with h1
   injection h1 with h1 h2
   subst h1 h2
   exact .inr ⟨g,o,rfl,fun j hj=>by rw [List.getElem_take];exact hr j (by omega)⟩
theorem ir_drop {w:World} {g o N c n:Nat} {l:List Int} (h:IR w (.slice (some ⟨g,o,none⟩) N c) l) (hn:n≤N):IR w (.slice (some ⟨g,o+n,none⟩) (N - n) (c - n)) (l.drop n):=by
 obtain ⟨A,c',e,hc,hr⟩:=h
 injection e with e1 e2 e3
 subst e3
 refine ⟨_,c - n,by rw [List.length_drop,e2],by rw [List.length_drop];omega,?_⟩
 rcases hr with rfl | ⟨g',o',h1,hr⟩
 · exact .inl (by simp)
 · rw [←e1] at h1
   injection h1 with h1
   injection h1 with h1 h2
   subst h1 h2
   exact .inr ⟨g,o+n,rfl,fun j hj=>by
    rw [List.length_drop] at hj
    have:=hr (n+j) (by omega)
    rw [List.getElem_drop,Nat.add_assoc]
    exact this⟩
theorem new_cell (W:World) (b:Nat) (x:Value) (t:TypeId) (h:W.heap.size=b):(W.alloc (.cells #[x] t)).cell? ⟨b,0,none⟩=some x:=by
 subst h
 simp
def SoQ (w:World) (l:List Int) (e:Ending) (w':World):Prop:=∃ v m,e = .returned v∧IR w' v m∧Srt l m∧Below w.heap.size w w'
set_option maxHeartbeats 4000000 in
theorem sorted_small (v:Value) (l:List Int) (w:World) (h2:l.length<2) (h:IR w v l):Calls Tryz.prog 87 #[v] w (SoQ w l):=by
 have HQ:Hid (SoQ w l (.returned v) w):=⟨v,l,rfl,h,srt_small h2,Below.refl _ _⟩
 obtain ⟨A,c,rfl,_,_⟩:=h
 generalize l.length=n at HQ h2 ⊢
 have hI:(n:Int)<2:=by omega
 go_enter Tryz.func87,Tryz.ntmps87
 go_wp2
 go_ret
 exact HQ.out
set_option maxHeartbeats 16000000 in
theorem sorted_any:∀ (k:Nat) (v:Value) (l:List Int) (w:World),l.length≤k→l.length≤1099511627776→IR w v l→Calls Tryz.prog 87 #[v] w (SoQ w l)
 | 0,v,l,w,hk,_,h=>sorted_small v l w (by omega) h
 | k+1,v,l,w,hk,hL,h=>by
  by_cases h2:l.length<2
  · exact sorted_small v l w h2 h
  have HI:Hid (∀ (v:Value) (l:List Int) (w:World),l.length≤k→l.length≤1099511627776→IR w v l→Calls Tryz.prog 87 #[v] w (SoQ w l)):=sorted_any k
  have HIR:Hid (IR w v l):=h
  obtain ⟨A,c,hv,hc,hr⟩:=h
  obtain ⟨g,o,hA,hd⟩:=hr.resolve_left (fun e=>by rw [e] at h2;simp at h2)
  clear hd
  subst hA
  subst hv
  obtain ⟨N,hN⟩:∃ N,l.length=N:=⟨_,rfl⟩
  have HN:Hid (l.length=N):=hN
  rw [hN] at HIR hc h2 hk hL ⊢
  obtain ⟨m,hm⟩:∃ m,N / 2=m:=⟨_,rfl⟩
  have hmI:(N:Int).tdiv 2=(m:Int):=by rw [Int.tdiv_eq_ediv_of_nonneg (by omega)];omega
  have hge:¬ (N:Int)<2:=by omega
  have hmN:(m:Int)≤(N:Int):=by omega
  have hm0:(0:Int)≤(m:Int):=by omega
  have hmc:(m:Int)≤(c:Int):=by omega
  have hNc:(N:Int)≤(c:Int):=by omega
  have hme:((m:Int) == (c:Int))=false:=by simp;omega
  have hmne:¬ m=c:=by omega
  have H1:Hid (Calls Tryz.prog 87 #[.slice (some ⟨g,o,none⟩) m c] w (SoQ w (l.take m))):=HI.out _ _ _ (by rw [List.length_take];omega) (by rw [List.length_take];omega) (ir_take HIR.out (by omega))
  have H2:Hid (∀ W,Below w.heap.size w W→Calls Tryz.prog 87 #[.slice (some ⟨g,o+m,none⟩) (N - m) (c - m)] W (SoQ W (l.drop m))):=fun W hb=>HI.out _ _ _ (by rw [List.length_drop];omega) (by rw [List.length_drop];omega) (ir_drop (HIR.out.below hb (Nat.le_refl _)) (by omega))
  have HL:Hid (N≤1099511627776):=hL
  have hmB:(m:Int)≤1099511627776:=by omega
  have hNB:(N:Int)≤1099511627776:=by omega
  clear hr hN HI hm hk hL
  go_enter Tryz.func87,Tryz.ntmps87
  go_wp2_with fail
  refine H1.out.mono ?_
  rintro e w1 ⟨va,la,rfl,hIa,hSa,hB1⟩
  have HA1:Hid (IR w1 va la∧Srt (l.take m) la∧Below w.heap.size w w1):=⟨hIa,hSa,hB1⟩
  obtain ⟨xa,na,ya,hva⟩:=hIa.sl
  subst hva
  clear hIa hSa hB1 H1
  go_wp2_with fail
  have H2':=H2.out w1 HA1.out.2.2
  refine H2'.mono ?_
  rintro e w2 ⟨vb,lb,rfl,hIb,hSb,hB2⟩
  have HA:Hid (IR w2 (.slice xa na ya) la∧IR w2 vb lb∧MJ l la lb []∧Below w.heap.size w w2):=⟨HA1.out.1.below hB2 (Nat.le_refl _),hIb,MJ.start HA1.out.2.1 hSb,HA1.out.2.2.trans (hB2.mono HA1.out.2.2.size)⟩
  obtain ⟨xb,nb,yb,hvb⟩:=hIb.sl
  subst hvb
  clear hIb hSb hB2 HA1 H2 H2' HIR
  go_wp2
  obtain ⟨w3,hw3⟩:∃ w3,w3=w2.alloc (.cells #[] 3):=⟨_,rfl⟩
  have HO3:Hid (OwnI w3 w2.heap.size (.slice (some ⟨w2.heap.size,0,none⟩) 0 0) []∧Below w2.heap.size w2 w3):=by
   rw [hw3]
   exact ⟨NewI.own ⟨w2.heap.size,rfl,Nat.le_refl _,Array.getElem?_push_size⟩ (Nat.zero_le _),((Grown.refl w2).alloc _).below⟩
  rw [←hw3]
  clear hw3
  go_loopg [4,5,6] (la.length+lb.length) (fun f va vb vo wr=>Hid (∃ a b oo,IR w2 va a∧IR w2 vb b∧OwnI wr w2.heap.size vo oo∧Below w2.heap.size w2 wr∧MJ l a b oo∧a.length+b.length=f))
  case atStart=>exact ⟨la,lb,[],HA.out.1,HA.out.2.1,HO3.out.1,HO3.out.2,HA.out.2.2.1,rfl⟩
  case round=>
   have HB:Hid (Below w.heap.size w w2):=HA.out.2.2.2
   clear HA HO3
   obtain ⟨a,b,oo,ha,hb,hoo,hB,hJ,hf⟩:=hrel.out
   clear hrel
   have HAa:Hid (IR w2 u4 a):=ha
   have HAb:Hid (IR w2 u5 b):=hb
   have HO:Hid (OwnI wr w2.heap.size u6 oo):=hoo
   have HW:Hid (Below w2.heap.size w2 wr):=hB
   have HJ:Hid (MJ l a b oo):=hJ
   have HF:Hid (a.length+b.length=gk):=hf
   have HLo:Hid (oo.length+1≤8796093022208∨(a=[]∧b=[])):=by
    have h1:=hJ.n
    rw [HN.out] at h1
    have h2:=HL.out
    exact .inl (by omega)
   obtain ⟨vo,no,co,hvo⟩:=hoo.ir.sl
   subst hvo
   clear ha hb hoo hB hJ hf
   match a,b,HAa,HAb,HJ,HF,HLo with
   | [],[],HAa,HAb,HJ,HF,HLo=>
    as_aux_lemma=>
     obtain ⟨A1,c1,rfl⟩:=ir_nil HAa.out
     obtain ⟨A2,c2,rfl⟩:=ir_nil HAb.out
     have HQ:Hid (SoQ w l (.returned (.slice vo no co)) wr):=⟨_,_,rfl,HO.out.ir,HJ.out.done,HB.out.trans (HW.out.mono HB.out.size)⟩
     clear HAa HAb HJ HF HLo HO
     go_wp2
     go_ret
     exact HQ.out
   | x::a,[],HAa,HAb,HJ,HF,HLo=>
    as_aux_lemma=>
     have HLL:Hid (oo.length+1≤8796093022208):=HLo.out.resolve_right (by simp)
     obtain ⟨ga,oa,na,ca,rfl,hna,hca,qa,Ta,Ua⟩:=ir_cons HAa.out
     have TTa:Hid (ca≠1→IR w2 (.slice (some ⟨ga,oa+1,none⟩) (na - 1) (ca - 1)) a):=Ta
     have UUa:Hid (ca=1→IR w2 (.slice (some ⟨ga,oa,none⟩) 0 0) a):=Ua
     have pa:=cell_below qa HW.out (Nat.le_refl _)
     have h0a:0<na:=by omega
     have i0a:(0:Int)<(na:Int):=by omega
     have i1a:(1:Int)≤(na:Int):=by omega
     have ica:(na:Int)≤(ca:Int):=by omega
     have d0a:decide (0<na)=true:=by simp;omega
     have e0a:(na == 0)=false:=by simp;omega
     have f0a:((na:Int) == 0)=false:=by simp;omega
     have HNa:Hid (na=a.length+1):=hna
     clear hna qa Ta Ua HAa
     obtain ⟨Ab,cb,rfl⟩:=ir_nil HAb.out
     have HNb:Hid (IR w2 (.slice Ab 0 cb) []):=HAb.out
     clear HAb
     have HP:Hid (∀ W,Grown wr W→OwnI W w2.heap.size (.slice vo no co) oo∧w2.heap.size≤W.heap.size∧Below w2.heap.size w2 W):=fun W hg=>by
      have hb6:Below wr.heap.size wr W:=hg.below
      exact ⟨HO.out.below hb6 (Nat.le_refl _),Nat.le_trans HW.out.size hb6.size,HW.out.trans (hb6.mono HW.out.size)⟩
     have HJ2:Hid (MJ l a [] (oo++[x])):=HJ.out.left (by simp)
     clear HJ HLo HO
     by_cases hxa:ca=1
     · have Ra:Hid (IR w2 (.slice (some ⟨ga,oa,none⟩) 0 0) a):=UUa.out hxa
       subst hxa
       clear TTa UUa
       go_wp2
       go_quiet (fail)
       skip
       go_wp2_with (at_builtin;go_must (refine push_I rfl _ _ 38 rfl Tryz.underlying38 w2.heap.size _ oo rfl (HP.out _ (by (repeat (first | exact Grown.refl _ | refine Grown.alloc ?_ _ | refine Grown.drew ?_ | refine Grown.drewN ?_ _ | refine Grown.quiet ?_ _ _)))).1 _ _ x rfl (by (first | (simp;done) | exact new_cell _ _ _ _ rfl)) HLL.out (HP.out _ (by (repeat (first | exact Grown.refl _ | refine Grown.alloc ?_ _ | refine Grown.drew ?_ | refine Grown.drewN ?_ _ | refine Grown.quiet ?_ _ _)))).2.1 ?_;intro v3 w3 hO3 hB3;have HE:Hid (OwnI w3 w2.heap.size v3 (oo++[x])∧Below w2.heap.size w2 w3):=⟨hO3,(HP.out _ (by (repeat (first | exact Grown.refl _ | refine Grown.alloc ?_ _ | refine Grown.drew ?_ | refine Grown.drewN ?_ _ | refine Grown.quiet ?_ _ _)))).2.2.trans hB3⟩;clear hO3 hB3))
       try go_wp2
       go_roundg (gk - 1)
       case measure=>have:=HF.out;simp at this;omega
       case rel=>exact ⟨_,_,oo++[x],Ra.out,HNb.out,HE.out.1,HE.out.2,HJ2.out,by have:=HF.out;simp at this ⊢;omega⟩
     · have Ra:Hid (IR w2 (.slice (some ⟨ga,oa+1,none⟩) (na - 1) (ca - 1)) a):=TTa.out hxa
       have x1a:((1:Int) == (ca:Int))=false:=by simp;omega
       have x2a:¬ 1=ca:=by omega
       clear TTa UUa
       go_wp2
       go_quiet (fail)
       skip
       go_wp2_with (at_builtin;go_must (refine push_I rfl _ _ 38 rfl Tryz.underlying38 w2.heap.size _ oo rfl (HP.out _ (by (repeat (first | exact Grown.refl _ | refine Grown.alloc ?_ _ | refine Grown.drew ?_ | refine Grown.drewN ?_ _ | refine Grown.quiet ?_ _ _)))).1 _ _ x rfl (by (first | (simp;done) | exact new_cell _ _ _ _ rfl)) HLL.out (HP.out _ (by (repeat (first | exact Grown.refl _ | refine Grown.alloc ?_ _ | refine Grown.drew ?_ | refine Grown.drewN ?_ _ | refine Grown.quiet ?_ _ _)))).2.1 ?_;intro v3 w3 hO3 hB3;have HE:Hid (OwnI w3 w2.heap.size v3 (oo++[x])∧Below w2.heap.size w2 w3):=⟨hO3,(HP.out _ (by (repeat (first | exact Grown.refl _ | refine Grown.alloc ?_ _ | refine Grown.drew ?_ | refine Grown.drewN ?_ _ | refine Grown.quiet ?_ _ _)))).2.2.trans hB3⟩;clear hO3 hB3))
       try go_wp2
       go_roundg (gk - 1)
       case measure=>have:=HF.out;simp at this;omega
       case rel=>exact ⟨_,_,oo++[x],Ra.out,HNb.out,HE.out.1,HE.out.2,HJ2.out,by have:=HF.out;simp at this ⊢;omega⟩
   | [],y::b,HAa,HAb,HJ,HF,HLo=>
    as_aux_lemma=>
     have HLL:Hid (oo.length+1≤8796093022208):=HLo.out.resolve_right (by simp)
     obtain ⟨gb,ob,nb,cb,rfl,hnb,hcb,qb,Tb,Ub⟩:=ir_cons HAb.out
     have TTb:Hid (cb≠1→IR w2 (.slice (some ⟨gb,ob+1,none⟩) (nb - 1) (cb - 1)) b):=Tb
     have UUb:Hid (cb=1→IR w2 (.slice (some ⟨gb,ob,none⟩) 0 0) b):=Ub
     have pb:=cell_below qb HW.out (Nat.le_refl _)
     have h0b:0<nb:=by omega
     have i0b:(0:Int)<(nb:Int):=by omega
     have i1b:(1:Int)≤(nb:Int):=by omega
     have icb:(nb:Int)≤(cb:Int):=by omega
     have d0b:decide (0<nb)=true:=by simp;omega
     have e0b:(nb == 0)=false:=by simp;omega
     have f0b:((nb:Int) == 0)=false:=by simp;omega
     have HNb:Hid (nb=b.length+1):=hnb
     clear hnb qb Tb Ub HAb
     obtain ⟨Aa,ca,rfl⟩:=ir_nil HAa.out
     have HNa:Hid (IR w2 (.slice Aa 0 ca) []):=HAa.out
     clear HAa
     have HP:Hid (∀ W,Grown wr W→OwnI W w2.heap.size (.slice vo no co) oo∧w2.heap.size≤W.heap.size∧Below w2.heap.size w2 W):=fun W hg=>by
      have hb6:Below wr.heap.size wr W:=hg.below
      exact ⟨HO.out.below hb6 (Nat.le_refl _),Nat.le_trans HW.out.size hb6.size,HW.out.trans (hb6.mono HW.out.size)⟩
     have HJ2:Hid (MJ l [] b (oo++[y])):=HJ.out.right (by simp)
     clear HJ HLo HO
     by_cases hxb:cb=1
     · have Rb:Hid (IR w2 (.slice (some ⟨gb,ob,none⟩) 0 0) b):=UUb.out hxb
       subst hxb
       clear TTb UUb
       go_wp2
       go_quiet (fail)
       go_wp2;go_quiet (fail)
       go_wp2_with (at_builtin;go_must (refine push_I rfl _ _ 38 rfl Tryz.underlying38 w2.heap.size _ oo rfl (HP.out _ (by (repeat (first | exact Grown.refl _ | refine Grown.alloc ?_ _ | refine Grown.drew ?_ | refine Grown.drewN ?_ _ | refine Grown.quiet ?_ _ _)))).1 _ _ y rfl (by (first | (simp;done) | exact new_cell _ _ _ _ rfl)) HLL.out (HP.out _ (by (repeat (first | exact Grown.refl _ | refine Grown.alloc ?_ _ | refine Grown.drew ?_ | refine Grown.drewN ?_ _ | refine Grown.quiet ?_ _ _)))).2.1 ?_;intro v3 w3 hO3 hB3;have HE:Hid (OwnI w3 w2.heap.size v3 (oo++[y])∧Below w2.heap.size w2 w3):=⟨hO3,(HP.out _ (by (repeat (first | exact Grown.refl _ | refine Grown.alloc ?_ _ | refine Grown.drew ?_ | refine Grown.drewN ?_ _ | refine Grown.quiet ?_ _ _)))).2.2.trans hB3⟩;clear hO3 hB3))
       try go_wp2
       go_roundg (gk - 1)
       case measure=>have:=HF.out;simp at this;omega
       case rel=>exact ⟨_,_,oo++[y],HNa.out,Rb.out,HE.out.1,HE.out.2,HJ2.out,by have:=HF.out;simp at this ⊢;omega⟩
     · have Rb:Hid (IR w2 (.slice (some ⟨gb,ob+1,none⟩) (nb - 1) (cb - 1)) b):=TTb.out hxb
       have x1b:((1:Int) == (cb:Int))=false:=by simp;omega
       have x2b:¬ 1=cb:=by omega
       clear TTb UUb
       go_wp2
       go_quiet (fail)
       go_wp2;go_quiet (fail)
       go_wp2_with (at_builtin;go_must (refine push_I rfl _ _ 38 rfl Tryz.underlying38 w2.heap.size _ oo rfl (HP.out _ (by (repeat (first | exact Grown.refl _ | refine Grown.alloc ?_ _ | refine Grown.drew ?_ | refine Grown.drewN ?_ _ | refine Grown.quiet ?_ _ _)))).1 _ _ y rfl (by (first | (simp;done) | exact new_cell _ _ _ _ rfl)) HLL.out (HP.out _ (by (repeat (first | exact Grown.refl _ | refine Grown.alloc ?_ _ | refine Grown.drew ?_ | refine Grown.drewN ?_ _ | refine Grown.quiet ?_ _ _)))).2.1 ?_;intro v3 w3 hO3 hB3;have HE:Hid (OwnI w3 w2.heap.size v3 (oo++[y])∧Below w2.heap.size w2 w3):=⟨hO3,(HP.out _ (by (repeat (first | exact Grown.refl _ | refine Grown.alloc ?_ _ | refine Grown.drew ?_ | refine Grown.drewN ?_ _ | refine Grown.quiet ?_ _ _)))).2.2.trans hB3⟩;clear hO3 hB3))
       try go_wp2
       go_roundg (gk - 1)
       case measure=>have:=HF.out;simp at this;omega
       case rel=>exact ⟨_,_,oo++[y],HNa.out,Rb.out,HE.out.1,HE.out.2,HJ2.out,by have:=HF.out;simp at this ⊢;omega⟩
   | x::a,y::b,HAa,HAb,HJ,HF,HLo=>
    as_aux_lemma=>
     have HLL:Hid (oo.length+1≤8796093022208):=HLo.out.resolve_right (by simp)
     obtain ⟨ga,oa,na,ca,rfl,hna,hca,qa,Ta,Ua⟩:=ir_cons HAa.out
     have TTa:Hid (ca≠1→IR w2 (.slice (some ⟨ga,oa+1,none⟩) (na - 1) (ca - 1)) a):=Ta
     have UUa:Hid (ca=1→IR w2 (.slice (some ⟨ga,oa,none⟩) 0 0) a):=Ua
     have pa:=cell_below qa HW.out (Nat.le_refl _)
     have h0a:0<na:=by omega
     have i0a:(0:Int)<(na:Int):=by omega
     have i1a:(1:Int)≤(na:Int):=by omega
     have ica:(na:Int)≤(ca:Int):=by omega
     have d0a:decide (0<na)=true:=by simp;omega
     have e0a:(na == 0)=false:=by simp;omega
     have f0a:((na:Int) == 0)=false:=by simp;omega
     have HNa:Hid (na=a.length+1):=hna
     clear hna qa Ta Ua
     obtain ⟨gb,ob,nb,cb,rfl,hnb,hcb,qb,Tb,Ub⟩:=ir_cons HAb.out
     have TTb:Hid (cb≠1→IR w2 (.slice (some ⟨gb,ob+1,none⟩) (nb - 1) (cb - 1)) b):=Tb
     have UUb:Hid (cb=1→IR w2 (.slice (some ⟨gb,ob,none⟩) 0 0) b):=Ub
     have pb:=cell_below qb HW.out (Nat.le_refl _)
     have h0b:0<nb:=by omega
     have i0b:(0:Int)<(nb:Int):=by omega
     have i1b:(1:Int)≤(nb:Int):=by omega
     have icb:(nb:Int)≤(cb:Int):=by omega
     have d0b:decide (0<nb)=true:=by simp;omega
     have e0b:(nb == 0)=false:=by simp;omega
     have f0b:((nb:Int) == 0)=false:=by simp;omega
     have HNb:Hid (nb=b.length+1):=hnb
     clear hnb qb Tb Ub
     have HP:Hid (∀ W,Grown wr W→OwnI W w2.heap.size (.slice vo no co) oo∧w2.heap.size≤W.heap.size∧Below w2.heap.size w2 W):=fun W hg=>by
      have hb6:Below wr.heap.size wr W:=hg.below
      exact ⟨HO.out.below hb6 (Nat.le_refl _),Nat.le_trans HW.out.size hb6.size,HW.out.trans (hb6.mono HW.out.size)⟩
     rcases Int.lt_trichotomy x y with hxy | hxy | hxy
     · as_aux_lemma=>
        have HJ2:Hid (MJ l a (y::b) (oo++[x])):=HJ.out.left (all_lt HJ.out.pb hxy)
        clear HJ HLo HO
        by_cases hxa:ca=1
        · have Ra:Hid (IR w2 (.slice (some ⟨ga,oa,none⟩) 0 0) a):=UUa.out hxa
          subst hxa
          clear TTa UUa
          go_wp2
          go_quiet (fail)
          skip
          go_wp2_with (at_builtin;go_must (refine push_I rfl _ _ 38 rfl Tryz.underlying38 w2.heap.size _ oo rfl (HP.out _ (by (repeat (first | exact Grown.refl _ | refine Grown.alloc ?_ _ | refine Grown.drew ?_ | refine Grown.drewN ?_ _ | refine Grown.quiet ?_ _ _)))).1 _ _ x rfl (by (first | (simp;done) | exact new_cell _ _ _ _ rfl)) HLL.out (HP.out _ (by (repeat (first | exact Grown.refl _ | refine Grown.alloc ?_ _ | refine Grown.drew ?_ | refine Grown.drewN ?_ _ | refine Grown.quiet ?_ _ _)))).2.1 ?_;intro v3 w3 hO3 hB3;have HE:Hid (OwnI w3 w2.heap.size v3 (oo++[x])∧Below w2.heap.size w2 w3):=⟨hO3,(HP.out _ (by (repeat (first | exact Grown.refl _ | refine Grown.alloc ?_ _ | refine Grown.drew ?_ | refine Grown.drewN ?_ _ | refine Grown.quiet ?_ _ _)))).2.2.trans hB3⟩;clear hO3 hB3))
          try go_wp2
          go_roundg (gk - 1)
          case measure=>have:=HF.out;simp at this;omega
          case rel=>exact ⟨_,_,oo++[x],Ra.out,HAb.out,HE.out.1,HE.out.2,HJ2.out,by have:=HF.out;simp at this ⊢;omega⟩
        · have Ra:Hid (IR w2 (.slice (some ⟨ga,oa+1,none⟩) (na - 1) (ca - 1)) a):=TTa.out hxa
          have x1a:((1:Int) == (ca:Int))=false:=by simp;omega
          have x2a:¬ 1=ca:=by omega
          clear TTa UUa
          go_wp2
          go_quiet (fail)
          skip
          go_wp2_with (at_builtin;go_must (refine push_I rfl _ _ 38 rfl Tryz.underlying38 w2.heap.size _ oo rfl (HP.out _ (by (repeat (first | exact Grown.refl _ | refine Grown.alloc ?_ _ | refine Grown.drew ?_ | refine Grown.drewN ?_ _ | refine Grown.quiet ?_ _ _)))).1 _ _ x rfl (by (first | (simp;done) | exact new_cell _ _ _ _ rfl)) HLL.out (HP.out _ (by (repeat (first | exact Grown.refl _ | refine Grown.alloc ?_ _ | refine Grown.drew ?_ | refine Grown.drewN ?_ _ | refine Grown.quiet ?_ _ _)))).2.1 ?_;intro v3 w3 hO3 hB3;have HE:Hid (OwnI w3 w2.heap.size v3 (oo++[x])∧Below w2.heap.size w2 w3):=⟨hO3,(HP.out _ (by (repeat (first | exact Grown.refl _ | refine Grown.alloc ?_ _ | refine Grown.drew ?_ | refine Grown.drewN ?_ _ | refine Grown.quiet ?_ _ _)))).2.2.trans hB3⟩;clear hO3 hB3))
          try go_wp2
          go_roundg (gk - 1)
          case measure=>have:=HF.out;simp at this;omega
          case rel=>exact ⟨_,_,oo++[x],Ra.out,HAb.out,HE.out.1,HE.out.2,HJ2.out,by have:=HF.out;simp at this ⊢;omega⟩
     · as_aux_lemma=>
        subst hxy
        have HJ2:Hid (MJ l a b (oo++[x])):=HJ.out.both
        have hxn:¬ x<x:=by omega
        clear HJ HLo HO
        by_cases hxa:ca=1
        · have Ra:Hid (IR w2 (.slice (some ⟨ga,oa,none⟩) 0 0) a):=UUa.out hxa
          subst hxa
          clear TTa UUa
          by_cases hxb:cb=1
          · have Rb:Hid (IR w2 (.slice (some ⟨gb,ob,none⟩) 0 0) b):=UUb.out hxb
            subst hxb
            clear TTb UUb
            go_wp2
            go_quiet (fail)
            go_wp2;go_quiet (fail)
            go_wp2_with (at_builtin;go_must (refine push_I rfl _ _ 38 rfl Tryz.underlying38 w2.heap.size _ oo rfl (HP.out _ (by (repeat (first | exact Grown.refl _ | refine Grown.alloc ?_ _ | refine Grown.drew ?_ | refine Grown.drewN ?_ _ | refine Grown.quiet ?_ _ _)))).1 _ _ x rfl (by (first | (simp;done) | exact new_cell _ _ _ _ rfl)) HLL.out (HP.out _ (by (repeat (first | exact Grown.refl _ | refine Grown.alloc ?_ _ | refine Grown.drew ?_ | refine Grown.drewN ?_ _ | refine Grown.quiet ?_ _ _)))).2.1 ?_;intro v3 w3 hO3 hB3;have HE:Hid (OwnI w3 w2.heap.size v3 (oo++[x])∧Below w2.heap.size w2 w3):=⟨hO3,(HP.out _ (by (repeat (first | exact Grown.refl _ | refine Grown.alloc ?_ _ | refine Grown.drew ?_ | refine Grown.drewN ?_ _ | refine Grown.quiet ?_ _ _)))).2.2.trans hB3⟩;clear hO3 hB3))
            try go_wp2
            go_roundg (gk - 2)
            case measure=>have:=HF.out;simp at this;omega
            case rel=>exact ⟨_,_,oo++[x],Ra.out,Rb.out,HE.out.1,HE.out.2,HJ2.out,by have:=HF.out;simp at this ⊢;omega⟩
          · have Rb:Hid (IR w2 (.slice (some ⟨gb,ob+1,none⟩) (nb - 1) (cb - 1)) b):=TTb.out hxb
            have x1b:((1:Int) == (cb:Int))=false:=by simp;omega
            have x2b:¬ 1=cb:=by omega
            clear TTb UUb
            go_wp2
            go_quiet (fail)
            go_wp2;go_quiet (fail)
            go_wp2_with (at_builtin;go_must (refine push_I rfl _ _ 38 rfl Tryz.underlying38 w2.heap.size _ oo rfl (HP.out _ (by (repeat (first | exact Grown.refl _ | refine Grown.alloc ?_ _ | refine Grown.drew ?_ | refine Grown.drewN ?_ _ | refine Grown.quiet ?_ _ _)))).1 _ _ x rfl (by (first | (simp;done) | exact new_cell _ _ _ _ rfl)) HLL.out (HP.out _ (by (repeat (first | exact Grown.refl _ | refine Grown.alloc ?_ _ | refine Grown.drew ?_ | refine Grown.drewN ?_ _ | refine Grown.quiet ?_ _ _)))).2.1 ?_;intro v3 w3 hO3 hB3;have HE:Hid (OwnI w3 w2.heap.size v3 (oo++[x])∧Below w2.heap.size w2 w3):=⟨hO3,(HP.out _ (by (repeat (first | exact Grown.refl _ | refine Grown.alloc ?_ _ | refine Grown.drew ?_ | refine Grown.drewN ?_ _ | refine Grown.quiet ?_ _ _)))).2.2.trans hB3⟩;clear hO3 hB3))
            try go_wp2
            go_roundg (gk - 2)
            case measure=>have:=HF.out;simp at this;omega
            case rel=>exact ⟨_,_,oo++[x],Ra.out,Rb.out,HE.out.1,HE.out.2,HJ2.out,by have:=HF.out;simp at this ⊢;omega⟩
        · have Ra:Hid (IR w2 (.slice (some ⟨ga,oa+1,none⟩) (na - 1) (ca - 1)) a):=TTa.out hxa
          have x1a:((1:Int) == (ca:Int))=false:=by simp;omega
          have x2a:¬ 1=ca:=by omega
          clear TTa UUa
          by_cases hxb:cb=1
          · have Rb:Hid (IR w2 (.slice (some ⟨gb,ob,none⟩) 0 0) b):=UUb.out hxb
            subst hxb
            clear TTb UUb
            go_wp2
            go_quiet (fail)
            go_wp2;go_quiet (fail)
            go_wp2_with (at_builtin;go_must (refine push_I rfl _ _ 38 rfl Tryz.underlying38 w2.heap.size _ oo rfl (HP.out _ (by (repeat (first | exact Grown.refl _ | refine Grown.alloc ?_ _ | refine Grown.drew ?_ | refine Grown.drewN ?_ _ | refine Grown.quiet ?_ _ _)))).1 _ _ x rfl (by (first | (simp;done) | exact new_cell _ _ _ _ rfl)) HLL.out (HP.out _ (by (repeat (first | exact Grown.refl _ | refine Grown.alloc ?_ _ | refine Grown.drew ?_ | refine Grown.drewN ?_ _ | refine Grown.quiet ?_ _ _)))).2.1 ?_;intro v3 w3 hO3 hB3;have HE:Hid (OwnI w3 w2.heap.size v3 (oo++[x])∧Below w2.heap.size w2 w3):=⟨hO3,(HP.out _ (by (repeat (first | exact Grown.refl _ | refine Grown.alloc ?_ _ | refine Grown.drew ?_ | refine Grown.drewN ?_ _ | refine Grown.quiet ?_ _ _)))).2.2.trans hB3⟩;clear hO3 hB3))
            try go_wp2
            go_roundg (gk - 2)
            case measure=>have:=HF.out;simp at this;omega
            case rel=>exact ⟨_,_,oo++[x],Ra.out,Rb.out,HE.out.1,HE.out.2,HJ2.out,by have:=HF.out;simp at this ⊢;omega⟩
          · have Rb:Hid (IR w2 (.slice (some ⟨gb,ob+1,none⟩) (nb - 1) (cb - 1)) b):=TTb.out hxb
            have x1b:((1:Int) == (cb:Int))=false:=by simp;omega
            have x2b:¬ 1=cb:=by omega
            clear TTb UUb
            go_wp2
            go_quiet (fail)
            go_wp2;go_quiet (fail)
            go_wp2_with (at_builtin;go_must (refine push_I rfl _ _ 38 rfl Tryz.underlying38 w2.heap.size _ oo rfl (HP.out _ (by (repeat (first | exact Grown.refl _ | refine Grown.alloc ?_ _ | refine Grown.drew ?_ | refine Grown.drewN ?_ _ | refine Grown.quiet ?_ _ _)))).1 _ _ x rfl (by (first | (simp;done) | exact new_cell _ _ _ _ rfl)) HLL.out (HP.out _ (by (repeat (first | exact Grown.refl _ | refine Grown.alloc ?_ _ | refine Grown.drew ?_ | refine Grown.drewN ?_ _ | refine Grown.quiet ?_ _ _)))).2.1 ?_;intro v3 w3 hO3 hB3;have HE:Hid (OwnI w3 w2.heap.size v3 (oo++[x])∧Below w2.heap.size w2 w3):=⟨hO3,(HP.out _ (by (repeat (first | exact Grown.refl _ | refine Grown.alloc ?_ _ | refine Grown.drew ?_ | refine Grown.drewN ?_ _ | refine Grown.quiet ?_ _ _)))).2.2.trans hB3⟩;clear hO3 hB3))
            try go_wp2
            go_roundg (gk - 2)
            case measure=>have:=HF.out;simp at this;omega
            case rel=>exact ⟨_,_,oo++[x],Ra.out,Rb.out,HE.out.1,HE.out.2,HJ2.out,by have:=HF.out;simp at this ⊢;omega⟩
     · as_aux_lemma=>
        have HJ2:Hid (MJ l (x::a) b (oo++[y])):=HJ.out.right (all_lt HJ.out.pa hxy)
        have hxn:¬ x<y:=by omega
        have hxd:decide (x<y)=false:=by simp;omega
        clear HJ HLo HO
        by_cases hxb:cb=1
        · have Rb:Hid (IR w2 (.slice (some ⟨gb,ob,none⟩) 0 0) b):=UUb.out hxb
          subst hxb
          clear TTb UUb
          go_wp2
          go_quiet (fail)
          go_wp2;go_quiet (fail)
          go_wp2_with (at_builtin;go_must (refine push_I rfl _ _ 38 rfl Tryz.underlying38 w2.heap.size _ oo rfl (HP.out _ (by (repeat (first | exact Grown.refl _ | refine Grown.alloc ?_ _ | refine Grown.drew ?_ | refine Grown.drewN ?_ _ | refine Grown.quiet ?_ _ _)))).1 _ _ y rfl (by (first | (simp;done) | exact new_cell _ _ _ _ rfl)) HLL.out (HP.out _ (by (repeat (first | exact Grown.refl _ | refine Grown.alloc ?_ _ | refine Grown.drew ?_ | refine Grown.drewN ?_ _ | refine Grown.quiet ?_ _ _)))).2.1 ?_;intro v3 w3 hO3 hB3;have HE:Hid (OwnI w3 w2.heap.size v3 (oo++[y])∧Below w2.heap.size w2 w3):=⟨hO3,(HP.out _ (by (repeat (first | exact Grown.refl _ | refine Grown.alloc ?_ _ | refine Grown.drew ?_ | refine Grown.drewN ?_ _ | refine Grown.quiet ?_ _ _)))).2.2.trans hB3⟩;clear hO3 hB3))
          try go_wp2
          go_roundg (gk - 1)
          case measure=>have:=HF.out;simp at this;omega
          case rel=>exact ⟨_,_,oo++[y],HAa.out,Rb.out,HE.out.1,HE.out.2,HJ2.out,by have:=HF.out;simp at this ⊢;omega⟩
        · have Rb:Hid (IR w2 (.slice (some ⟨gb,ob+1,none⟩) (nb - 1) (cb - 1)) b):=TTb.out hxb
          have x1b:((1:Int) == (cb:Int))=false:=by simp;omega
          have x2b:¬ 1=cb:=by omega
          clear TTb UUb
          go_wp2
          go_quiet (fail)
          go_wp2;go_quiet (fail)
          go_wp2_with (at_builtin;go_must (refine push_I rfl _ _ 38 rfl Tryz.underlying38 w2.heap.size _ oo rfl (HP.out _ (by (repeat (first | exact Grown.refl _ | refine Grown.alloc ?_ _ | refine Grown.drew ?_ | refine Grown.drewN ?_ _ | refine Grown.quiet ?_ _ _)))).1 _ _ y rfl (by (first | (simp;done) | exact new_cell _ _ _ _ rfl)) HLL.out (HP.out _ (by (repeat (first | exact Grown.refl _ | refine Grown.alloc ?_ _ | refine Grown.drew ?_ | refine Grown.drewN ?_ _ | refine Grown.quiet ?_ _ _)))).2.1 ?_;intro v3 w3 hO3 hB3;have HE:Hid (OwnI w3 w2.heap.size v3 (oo++[y])∧Below w2.heap.size w2 w3):=⟨hO3,(HP.out _ (by (repeat (first | exact Grown.refl _ | refine Grown.alloc ?_ _ | refine Grown.drew ?_ | refine Grown.drewN ?_ _ | refine Grown.quiet ?_ _ _)))).2.2.trans hB3⟩;clear hO3 hB3))
          try go_wp2
          go_roundg (gk - 1)
          case measure=>have:=HF.out;simp at this;omega
          case rel=>exact ⟨_,_,oo++[y],HAa.out,Rb.out,HE.out.1,HE.out.2,HJ2.out,by have:=HF.out;simp at this ⊢;omega⟩
end Go.Proofs
