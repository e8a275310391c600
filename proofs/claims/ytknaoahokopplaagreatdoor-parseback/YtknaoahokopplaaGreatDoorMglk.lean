/-
  Several texts in one (R4k R5k).
-/
import Derived.RangeFuncNested
import Derived.RangeFuncBound
import Derived.RangeFuncCalls
import Derived.RangeFuncLeaves
import Derived.Shelf.Abstract
import Derived.Shelf.RegionOpen
import Derived.WalkKit
import Derived.WalkSpells
import Derived.WalkLawsBesides
import Derived.OwnWalkIn
import Derived.TacticsInMore
import Derived.LoopNIn
import Derived.LoopIn
import Derived.BigQuiet
import Derived.RegionIn
import Derived.Deep.QuietTactic
import Derived.Lib.OthersKept
import Derived.Lib.IndexBytes
import Derived.Lib.ConvBytes
import Derived.Maps.AppendAt
import Derived.Lib.SmallJoins
import Derived.Lib.AppendStr
import Derived.Shelf.Strings.Builder1
import Derived.Below
import Derived.Deep.RegionWith
import Derived.ArgAppend
import Derived.Laws.CopyOwn
import Derived.Laws.MakeOwn
import Derived.Test.YtknaoahokopplaaGreatDoorR3k
namespace Go.Proofs
open Go.RowKit Go.Shelf
set_option maxRecDepth 100000
attribute [local go_sem] Oper.semAt_some
def OwnU (w:World) (base:Nat) (v:Value) (l:List (Nat × Nat)):Prop:=w.ownsRow base 150 2 v l.length (flat l)
theorem info138:(Tryz.prog.info? 150).map (fun i=>(i.zero,i.size,i.bytes))=some (some (.agg #[.int .i64 0,.int .i64 0]),2,16):=by kernel_rfl
theorem flat_append (l r:List (Nat × Nat)):flat (l++r)=flat l++flat r:=by simp [flat]
theorem flat_at:∀ (l:List (Nat × Nat)) {j:Nat} {x:Nat × Nat},l[j]? = some x→(flat l)[j*2]? = some (.int .i64 x.1)∧(flat l)[j*2+1]? = some (.int .i64 x.2)
 | [],j,x,h=>by simp at h
 | y::l,0,x,h=>by simp at h;subst h;simp [flat]
 | y::l,j+1,x,h=>by
  have ih:=flat_at l (j:=j) (x:=x) (by simpa using h)
  have e:flat (y::l) = .int .i64 y.1 :: .int .i64 y.2::flat l:=by simp [flat]
  rw [e,show (j+1)*2=j*2+1+1 by omega]
  simpa using ih
theorem addr_zero (g j:Nat):(⟨g,0,none⟩:Addr).add j=⟨g,j,none⟩:=by
 unfold Addr.add
 by_cases h:j=0
 · subst h;rfl
 · simp [h]
theorem OwnU.at {w:World} {base g n cap:Nat} {l:List (Nat × Nat)} (h:OwnU w base (.slice (some ⟨g,0,none⟩) n cap) l) {j:Nat} {x:Nat × Nat} (hj:l[j]? = some x):w.cell? ⟨g,j*2,none⟩=some (.int .i64 x.1)∧w.cell? ⟨g,j*2+1,none⟩=some (.int .i64 x.2):=by
 have h1:=h.cells rfl
 have:=flat_at l hj
 have a1:=h1 _ _ this.1
 have a2:=h1 _ _ this.2
 rw [addr_zero] at a1 a2
 exact ⟨a1,a2⟩
theorem OwnU.alloc {w:World} {base:Nat} {v:Value} {l:List (Nat × Nat)} (h:OwnU w base v l) (o:Obj):OwnU (w.alloc o) base v l:=World.ownsRow.alloc h o
theorem OwnU.below {w w':World} {base n:Nat} {v:Value} {l:List (Nat × Nat)} (h:OwnU w base v l) (hb:Below n w w') (hn:w.heap.size≤n):OwnU w' base v l:=by
 refine ⟨h.1,?_⟩
 rcases h.2 with h | ⟨g,cap,cur,rfl,h1,h2,h3⟩
 · exact .inl h
 · have:g<w.heap.size:=(Array.getElem?_eq_some_iff.1 h2).1
   exact .inr ⟨g,cap,cur,rfl,h1,(hb.block g (by omega)).trans h2,h3⟩
theorem uinfo_parts {P:Program} {e:TypeId} {z:Value} {s b:Nat} (h:(P.info? e).map (fun i=>(i.zero,i.size,i.bytes))=some (some z,s,b)):∃ i,P.info? e=some i∧i.zero=some z∧i.size=s∧i.bytes=b:=by
 cases hi:P.info? e with
 | none=>rw [hi] at h;simp at h
 | some i=>rw [hi] at h;simp at h;exact ⟨i,rfl,h.1,h.2.1,h.2.2⟩
theorem push_U {ops:Array Oper} {rest:List Oper} {o:Oper} {a:Act} {Q:Exit→Act→World→Prop} {w:World} (hgd:o.guard=none) (s x:Operand)
 (ho:o.op = .call { callee := .builtin .append,args:=#[s,x],argTypes:=#[147,147] })
 (base:Nat) (v:Value) (l:List (Nat × Nat)) (hs:a.eval s=v) (hown:OwnU w base v l) (g c:Nat) (p q:Nat) (q':Int) (hqq:q'=(q:Int)) (hx:a.eval x = .slice (some ⟨g,0,none⟩) 1 c)
 (hp:w.cell? ⟨g,0,none⟩=some (.int .i64 p)) (hq:w.cell? ⟨g,1,none⟩=some (.int .i64 q')) (hl:l.length+1≤8796093022208) (hbase:base≤w.heap.size)
 (h:∀ v' w',OwnU w' base v' (l++[(p,q)])→Below base w w'→wpList Tryz.prog ops Q rest (a.put o.dst v') w'):wpList Tryz.prog ops Q (o::rest) a w:=by
 subst hqq
 obtain ⟨i0,hi,hz0,hz1,hz2⟩:=uinfo_parts info138
 refine wpList_append_own w hgd s x 147 ho base 150 i0 (.agg #[.int .i64 0,.int .i64 0]) 2 16 Tryz.underlying147 hi hz0 hz1 hz2 rfl (by decide) v l.length (flat l) hs hown ⟨g,0,none⟩ 1 c (flat [(p,q)]) hx rfl ?_ ?_ (by unfold maxLen;omega) (by omega) hbase (fun v' w' h2 h3 _=>h v' w' ?_ ((Below.refl _ w).grown h3 hbase (fun k hk=>(World.ownsRow.lt hown k hk).1)))
 · intro j u hj
   match j,hj with
   | 0,hj=>simp [flat] at hj;subst hj;exact hp
   | 1,hj=>simp [flat] at hj;subst hj;exact hq
 · intro u hu;simp [flat] at hu;rcases hu with rfl | rfl <;> rfl
 · unfold OwnU
   rw [flat_append,List.length_append]
   exact h2
theorem units_next (s:ByteArray) (p:Nat) (hp:p<s.size):unitsN s s.size p=(p,uAt s p)::unitsN s s.size (p+uw s p):=by
 obtain ⟨j,hj⟩:∃ j,s.size=j+1:=⟨s.size - 1,by omega⟩
 have h1:=unitsN_step s j p hp
 have hu:=uw_pos s p
 rw [←hj] at h1
 rw [h1,fuel s j s.size (p+uw s p) (by omega) (by omega)]
theorem units_len (s:ByteArray):(units s).length≤s.size:=units_len_N s _ _
theorem strayVal (s:ByteArray) (p:Nat) (hp:p<s.size):wrap64 (1114112+wrap64 (s[p].toNat:Int))=((1114112+(s.get! p).toNat:Nat):Int):=by
 have:=(s[p]).toNat_lt
 rw [w64b,get_bang s p hp,show (1114112:Int)+((s[p].toNat:Nat):Int)=((1114112+s[p].toNat:Nat):Int) by omega]
 exact IntWalk.wrap64_in _ (by omega)
set_option maxHeartbeats 4000000 in
theorem runits_any (s:ByteArray) (w:World) (hs:s.size≤4398046511104):Calls Tryz.prog 154 #[.string s] w fun e w'=>∃ v,e = .returned v∧OwnU w' w.heap.size v (units s)∧Below w.heap.size w w':=by
 have hsi:(s.size:Int)≤4398046511104:=by omega
 go_enter Tryz.func154,Tryz.ntmps154
 go_wp2
 go_loopw [3,4] (fun vo va wr=>∃ (p:Nat) (l:List (Nat × Nat)),va = .int .i64 p∧p≤s.size∧l.length≤p∧Hid (l++unitsN s s.size p=units s)∧OwnU wr w.heap.size vo l∧Below w.heap.size w wr) (fun _ va _=>s.size - (intOf va).toNat)
 case atStart=>exact ⟨0,[],rfl,by omega,by simp,rfl,World.ownsRow_lit w _ 0 (Nat.le_refl _) (by unfold maxLen;omega) rfl,(Below.refl _ w).alloc (Nat.le_refl _) _⟩
 case round=>
  obtain ⟨p,l,rfl,hp,hl,hU,hO,hB⟩:=hrel
  have HO:Hid (OwnU wr w.heap.size u3 l):=hO
  have HB:Hid (Below w.heap.size w wr):=hB
  clear hO hB
  by_cases hps:p=s.size
  · as_aux_lemma=>
     subst hps
     have e:l=units s:=by rw [←hU.out,unitsN_end s _ _ (by omega),List.append_nil]
     subst e
     clear hU
     go_wp2
     go_ret
     exact ⟨_,rfl,HO.out,HB.out⟩
  · have hlt:p<s.size:=by omega
    have hpi:(p:Int)<(s.size:Int):=by omega
    have hu:=uw_pos s p
    have hin:=uw_in s p hlt
    have HN:Hid ((l++[(p,uAt s p)])++unitsN s s.size (p+uw s p)=units s):=by
     show _=_
     rw [←hU.out,units_next s p hlt];simp
    have hux:=uAt_lt s p
    have HW:Hid (wd (uAt s p:Int)=(uw s p:Int)):=wd_uAt s p
    cases hst:strayAt s p with
    | true=>
     as_aux_lemma=>
      have HE:Hid (beginsU s p = -1):=by show _=_;rw [begins_eq s p hlt,hst];rfl
      have HA:Hid (1114112+(s.get! p).toNat=uAt s p):=(uAt_stray hst).symm
      clear hst hU
      generalize uAt s p=x at *
      generalize uw s p=d at *
      go_wp2_with fail
      refine (begins_any s p _ hlt hs).mono ?_
      rw [HE.out]
      rintro e w1 ⟨rfl,hb1⟩
      replace HO:Hid (OwnU w1 w.heap.size u3 l):=HO.out.below hb1 (Nat.le_refl _)
      replace HB:Hid (Below w.heap.size w w1):=HB.out.trans (hb1.mono HB.out.size)
      have hz:=HB.out.size
      clear hb1 HE
      go_wp2_with (at_builtin;go_must (refine push_U rfl _ _ rfl w.heap.size _ _ rfl (HO.out.alloc _) _ _ p x _ ((strayVal s p hlt).trans (by rw [HA.out])) rfl (by simp) (by simp) (by omega) (by simp;omega) ?_);intro v' w3 hO1 hb3)
      have HO1:Hid (OwnU w3 w.heap.size v' (l++[(p,x)])):=hO1
      have HB3:Hid (Below w.heap.size w w3):=(HB.out.alloc hz _).trans hb3
      clear hO1 hb3 HO HB
      go_wp2_with fail
      refine (rwidth_any _ _).mono ?_
      rw [strayVal s p hlt,HA.out,HW.out]
      rintro e w4 ⟨rfl,rfl⟩
      clear HA HW
      go_wp2
      exact ⟨⟨p+d,_,by go_num,by omega,by simp;omega,HN,HO1.out,HB3.out⟩,by simp [intOf];omega⟩
    | false=>
     as_aux_lemma=>
      have HE:Hid (beginsU s p=(uAt s p:Int)):=by show _=_;rw [begins_eq s p hlt,hst];rfl
      clear hst hU
      generalize uAt s p=x at *
      generalize uw s p=d at *
      clear hux
      have hz:=HB.out.size
      go_wp2_with fail
      refine (begins_any s p _ hlt hs).mono ?_
      rw [HE.out]
      rintro e w1 ⟨rfl,hb1⟩
      replace HO:Hid (OwnU w1 w.heap.size u3 l):=HO.out.below hb1 (Nat.le_refl _)
      replace HB:Hid (Below w.heap.size w w1):=HB.out.trans (hb1.mono HB.out.size)
      replace hz:=HB.out.size
      clear hb1 HE
      go_wp2_with (at_builtin;go_must (refine push_U rfl _ _ rfl w.heap.size _ _ rfl (HO.out.alloc _) _ _ p x _ rfl rfl (by simp) (by simp) (by omega) (by simp;omega) ?_);intro v' w3 hO1 hb3)
      have HO1:Hid (OwnU w3 w.heap.size v' (l++[(p,x)])):=hO1
      have HB3:Hid (Below w.heap.size w w3):=(HB.out.alloc hz _).trans hb3
      clear hO1 hb3 HO HB
      go_wp2_with fail
      refine (rwidth_any _ _).mono ?_
      rw [HW.out]
      rintro e w4 ⟨rfl,rfl⟩
      clear HW
      go_wp2
      exact ⟨⟨p+d,_,by go_num,by omega,by simp;omega,HN,HO1.out,HB3.out⟩,by simp [intOf];omega⟩
end Go.Proofs
namespace Go.Proofs
open Go.RowKit Go.Shelf
set_option maxRecDepth 100000
attribute [local go_sem] Oper.semAt_some
def OwnI1 (w:World) (base:Nat) (v:Value) (l:List Int):Prop:=w.ownsRow base 3 1 v l.length (l.map (Value.int .i64))
theorem OwnI1.alloc {w:World} {base:Nat} {v:Value} {l:List Int} (h:OwnI1 w base v l) (o:Obj):OwnI1 (w.alloc o) base v l:=World.ownsRow.alloc h o
theorem OwnI1.ints {w:World} {base:Nat} {v:Value} {l:List Int} (h:OwnI1 w base v l):Ints w v l:=Ints.of_row h
theorem push_I1 {ops:Array Oper} {rest:List Oper} {o:Oper} {a:Act} {Q:Exit→Act→World→Prop} {w:World} (hgd:o.guard=none) (s x:Operand)
 (ho:o.op = .call { callee := .builtin .append,args:=#[s,x],argTypes:=#[46,46] })
 (base:Nat) (v:Value) (l:List Int) (hs:a.eval s=v) (hown:OwnI1 w base v l) (g c:Nat) (p:Int) (hx:a.eval x = .slice (some ⟨g,0,none⟩) 1 c)
 (hp:w.cell? ⟨g,0,none⟩=some (.int .i64 p)) (hl:l.length+1≤8796093022208) (hbase:base≤w.heap.size)
 (h:∀ v' w',OwnI1 w' base v' (l++[p])→Below base w w'→wpList Tryz.prog ops Q rest (a.put o.dst v') w'):wpList Tryz.prog ops Q (o::rest) a w:=by
 obtain ⟨i0,hi,hz0,hz1,hz2⟩:=uinfo_parts info3
 refine wpList_append_own w hgd s x 46 ho base 3 i0 (.int .i64 0) 1 8 Tryz.underlying46 hi hz0 hz1 hz2 rfl (by decide) v l.length _ hs hown ⟨g,0,none⟩ 1 c [.int .i64 p] hx rfl ?_ (by simp;rfl) (by unfold maxLen;omega) (by omega) hbase (fun v' w' h2 h3 _=>h v' w' ?_ ((Below.refl _ w).grown h3 hbase (fun k hk=>(World.ownsRow.lt hown k hk).1)))
 · intro j u hj
   match j,hj with
   | 0,hj=>simp at hj;subst hj;exact hp
 · unfold OwnI1
   rw [List.map_append,List.length_append]
   exact h2
def OwnI0 (w:World) (base:Nat) (v:Value) (l:List Int):Prop:=(∃ A,v = .slice A 0 0∧l=[])∨OwnI1 w base v l
theorem OwnI0.alloc {w:World} {base:Nat} {v:Value} {l:List Int} (h:OwnI0 w base v l) (o:Obj):OwnI0 (w.alloc o) base v l:=h.imp id fun h=>h.alloc o
theorem OwnI0.ints {w:World} {base:Nat} {v:Value} {l:List Int} (h:OwnI0 w base v l):Ints w v l:=by
 rcases h with ⟨A,rfl,rfl⟩ | h
 · exact ⟨A,0,rfl,.inl rfl⟩
 · exact h.ints
theorem push_I0 {ops:Array Oper} {rest:List Oper} {o:Oper} {a:Act} {Q:Exit→Act→World→Prop} {w:World} (hgd:o.guard=none) (s x:Operand)
 (ho:o.op = .call { callee := .builtin .append,args:=#[s,x],argTypes:=#[46,46] })
 (base:Nat) (v:Value) (l:List Int) (hs:a.eval s=v) (hown:OwnI0 w base v l) (g c:Nat) (p:Int) (hx:a.eval x = .slice (some ⟨g,0,none⟩) 1 c)
 (hp:w.cell? ⟨g,0,none⟩=some (.int .i64 p)) (hl:l.length+1≤8796093022208) (hbase:base≤w.heap.size)
 (h:∀ v' w',OwnI0 w' base v' (l++[p])→Below base w w'→wpList Tryz.prog ops Q rest (a.put o.dst v') w'):wpList Tryz.prog ops Q (o::rest) a w:=by
 rcases hown with ⟨A,rfl,rfl⟩ | hown
 · obtain ⟨i0,hi,hz0,hz1,hz2⟩:=uinfo_parts info3
   refine wpList_append_grows w hgd s x 46 ho 3 i0 (.int .i64 0) 1 8 Tryz.underlying46 hi hz0 hz1 hz2 rfl (by decide) A 0 0 [] hs (fun _=>⟨rfl,rfl⟩) rfl (fun b _ j u hj=>by simp at hj) ⟨g,0,none⟩ 1 c [.int .i64 p] hx rfl ?_ (by simp;rfl) (by omega) (by unfold maxLen;omega) (by omega) (fun v' w' h2 h3=>h v' w' (.inr ?_) ((Below.refl _ w).grown h3 hbase (fun k hk=>by cases hk)))
   · intro j u hj
     match j,hj with
     | 0,hj=>simp at hj;subst hj;exact hp
   · exact Joins.ownsRow_le h2 hbase
 · exact push_I1 hgd s x ho base v l hs hown g c p hx hp hl hbase (fun v' w' h1 h2=>h v' w' (.inr h1) h2)
theorem ints_at {l:List (Nat × Nat)} {i:Nat} {x:Nat × Nat} (h:l[i]? = some x):(ints l).take (i+1)=(ints l).take i++[(x.2:Int)]:=by
 obtain ⟨hlt,e⟩:=List.getElem?_eq_some_iff.1 h
 rw [List.take_succ_eq_append_getElem (by rw [ints_length];exact hlt)]
 simp [ints,e]
set_option maxHeartbeats 4000000 in
theorem rcut_any (s:ByteArray) (w:World) (hs:s.size≤4398046511104):Calls Tryz.prog 126 #[.string s] w fun e w'=>∃ v,e = .returned v∧Ints w' v (ints (units s))∧Below w.heap.size w w':=by
 have hul:=units_len s
 go_enter Tryz.func126,Tryz.ntmps126
 go_wp2_with fail
 refine (runits_any s _ hs).mono ?_
 rintro e w1 ⟨v,rfl,hO,hb⟩
 obtain ⟨A,n,cap,rfl,hn,hcells⟩:∃ A n cap,v = .slice A n cap∧n=(units s).length∧∀ j x,(units s)[j]? = some x→∃ g,A=some ⟨g,0,none⟩∧g<w1.heap.size∧w1.cell? ⟨g,j*2+1,none⟩=some (.int .i64 x.2)∧n≤cap:=by
  rcases hO.2 with ⟨rfl,h0⟩ | ⟨g,cap,cur,rfl,_,hh,hc,_⟩
  · have:units s=[]:=List.eq_nil_of_length_eq_zero h0
    exact ⟨none,0,0,rfl,by rw [this];rfl,fun j x h=>by rw [this] at h;simp at h⟩
  · exact ⟨_,_,cap,rfl,rfl,fun j x h=>⟨g,rfl,(Array.getElem?_eq_some_iff.1 hh).1,(OwnU.at hO h).2,hc⟩⟩
 have HC:Hid (∀ j x,(units s)[j]? = some x→∃ g,A=some ⟨g,0,none⟩∧g<w1.heap.size∧w1.cell? ⟨g,j*2+1,none⟩=some (.int .i64 x.2)∧n≤cap):=hcells
 have HN:Hid (n=(units s).length):=hn
 have hni:n≤4398046511104:=by omega
 have hb0:Below w.heap.size w w1:=by
  first | exact hb | exact ((Below.refl _ w).alloc (Nat.le_refl _) _).trans (hb.mono (by simp))
 have HB:Hid (Below w.heap.size w w1):=hb0
 have hz1:w.heap.size≤w1.heap.size:=hb0.size
 clear hcells hb hn hO hb0 hul
 go_wp2
 go_loopw [3,5] (fun vo vi wr=>∃ i:Nat,vi = .int .i64 i∧i≤n∧OwnI0 wr w1.heap.size vo ((ints (units s)).take i)∧Below w1.heap.size w1 wr) (fun _ vi _=>n - (intOf vi).toNat)
 case atStart=>exact ⟨0,rfl,by omega,.inl ⟨_,rfl,rfl⟩,Below.refl _ _⟩
 case round=>
  obtain ⟨i,rfl,hi,hO,hW⟩:=hrel
  have hz:w1.heap.size≤wr.heap.size:=hW.size
  by_cases hin:i=n
  · as_aux_lemma=>
     have hni':=hin.symm
     subst hni'
     have HO:Hid (Ints wr u3 (ints (units s))):=by
      have:=hO.ints
      rw [List.take_of_length_le (by rw [ints_length,HN.out];exact Nat.le_refl _)] at this
      exact this
     have HW:Hid (Below w1.heap.size w1 wr):=hW
     clear hO hW
     go_wp2
     go_ret
     exact ⟨_,rfl,HO.out,HB.out.trans (HW.out.mono hz1)⟩
  · as_aux_lemma=>
     obtain ⟨x,hx⟩:∃ x,(units s)[i]? = some x:=⟨_,List.getElem?_eq_getElem (by rw [←HN.out];omega)⟩
     obtain ⟨g,rfl,hg,hc,hcap⟩:=HC.out i x hx
     have hc':=(hW.cell (p:=⟨g,i*2+1,none⟩) hg).trans hc
     have HT:Hid ((ints (units s)).take (i+1)=(ints (units s)).take i++[(x.2:Int)]):=ints_at hx
     have hlen:((ints (units s)).take i).length=i:=by rw [List.length_take,ints_length,←HN.out];omega
     have HO:Hid (OwnI0 wr w1.heap.size u3 ((ints (units s)).take i)):=hO
     have HW:Hid (Below w1.heap.size w1 wr):=hW
     have HL:Hid (((ints (units s)).take i).length=i):=hlen
     clear hx hc hO hW hlen
     go_wp2_with (at_builtin;go_must (refine push_I0 rfl _ _ rfl w1.heap.size _ _ rfl (HO.out.alloc _) _ _ (x.2:Int) rfl (by simp) (by rw [HL.out];omega) (by simp;omega) ?_);intro v' w3 hO1 hb3)
     exact ⟨⟨i+1,by go_num,by omega,by rw [HT.out];exact hO1,(HW.out.alloc hz _).trans hb3⟩,by simp [intOf];omega⟩
theorem Ints.form {w:World} {v:Value} {xs:List Int} (h:Ints w v xs):∃ A cap,v = .slice A xs.length cap∧∀ j,j<xs.length→∃ g o,A=some ⟨g,o,none⟩∧w.cell? ⟨g,o+j,none⟩=some (.int .i64 (xs[j]?.getD 0)):=by
 obtain ⟨a,cap,rfl,hc⟩:=h
 refine ⟨a,cap,rfl,fun j hj => ?_⟩
 obtain ⟨g,o,rfl,h⟩:=hc.resolve_left (fun e=>by rw [e] at hj;simp at hj)
 exact ⟨g,o,rfl,h j hj⟩
theorem ints_get {l:List (Nat × Nat)} {j:Nat} {x:Nat × Nat} (h:l[j]? = some x):(ints l)[j]?.getD 0=(x.2:Int):=by simp [ints,h]
set_option maxHeartbeats 4000000 in
theorem rfirst_any (s:ByteArray) (w:World) (hs:s.size≤4398046511104):Calls Tryz.prog 83 #[.string s] w fun e w'=>e = .returned (.tuple #[.int .i64 (firstU s).1,.int .i64 (firstU s).2])∧Below w.heap.size w w':=by
 cases hU:units s with
 | nil=>
  have hF:firstU s=(0,0):=by unfold firstU;rw [hU]
  have hC:=rcut_any s w hs
  rw [hF]
  have HC:Hid (Calls Tryz.prog 126 #[.string s] w fun e w'=>∃ v,e = .returned v∧Ints w' v []∧Below w.heap.size w w'):=by rw [hU] at hC;exact hC
  clear hC hF hU
  go_enter Tryz.func83,Tryz.ntmps83
  go_wp2_with fail
  refine HC.out.mono ?_
  rintro e w1 ⟨v,rfl,hI,hb⟩
  obtain ⟨A,cap,rfl,-⟩:=hI.form
  have HB:Hid (Below w.heap.size w w1):=hb
  clear hb hI
  go_wp2
  go_ret2
  exact ⟨rfl,HB.out⟩
 | cons x l=>
  have hF:firstU s=((x.2:Int),wd x.2):=by unfold firstU;rw [hU]
  have hul:=units_len s
  rw [hU] at hul
  have hC:=rcut_any s w hs
  rw [hF]
  have HC:Hid (Calls Tryz.prog 126 #[.string s] w fun e w'=>∃ v,e = .returned v∧Ints w' v (ints (x::l))∧Below w.heap.size w w'):=by rw [hU] at hC;exact hC
  clear hC hF hU
  obtain ⟨d,hd⟩:∃ d,wd (x.2:Int)=d:=⟨_,rfl⟩
  have cW:Hid (∀ W:World,Calls Tryz.prog 125 #[.int .i64 (x.2:Int)] W fun e w'=>e = .returned (.int .i64 d)∧w'=W):=fun W=>by have:=rwidth_any x.2 W;rw [hd] at this;exact this
  rw [hd]
  go_enter Tryz.func83,Tryz.ntmps83
  go_wp2_with fail
  refine HC.out.mono ?_
  rintro e w1 ⟨v,rfl,hI,hb⟩
  obtain ⟨A,cap,rfl,hcell⟩:=hI.form
  have HB:Hid (Below w.heap.size w w1):=hb
  obtain ⟨g,o,rfl,hc⟩:=hcell 0 (by rw [ints_length];simp)
  rw [ints_get (x:=x) rfl,Nat.add_zero] at hc
  obtain ⟨n,hn⟩:∃ n,(ints (x::l)).length=n:=⟨_,rfl⟩
  have hn0:0<n:=by rw [←hn,ints_length];simp
  have hnn:n≤4398046511104:=by rw [←hn,ints_length];omega
  rw [hn]
  have hni:(0:Int)<(n:Int):=by omega
  have hne:((n:Int) == 0)=false:=by rw [beq_eq_false_iff_ne];omega
  have hgl:g<w1.heap.size:=by
   obtain ⟨ob,ho,_⟩:=cells_of_cell hc
   exact (Array.getElem?_eq_some_iff.1 ho).1
  have qc:∀ p:BelowOf w1,p.world.cell? ⟨g,o,none⟩=some (.int .i64 (x.2:Int)):=fun p=>(p.below.cell (p:=⟨g,o,none⟩) hgl).trans hc
  clear hb hI hcell hn hd HC hc
  go_wp2_with fail
  refine wp_region_quiet_below mixed (by kernel_rfl) ?_
  repeat (go_big_quiet_step ((go_at_call 125;exact below_same (cW.out _))))
  refine wpQuiet_nil ?_
  intro W2 hw'
  have hb2:Below w1.heap.size w1 W2:=by obtain ⟨⟨W',h⟩,e⟩:=hw';rw [e];exact h
  clear hw'
  go_wp2
  go_ret2
  exact ⟨rfl,HB.out.trans (hb2.mono HB.out.size)⟩
end Go.Proofs
