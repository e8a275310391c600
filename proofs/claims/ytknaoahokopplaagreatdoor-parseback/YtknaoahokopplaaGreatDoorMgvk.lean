/-
  Several texts in one (Kqk Lek Tgk Ypk Smk).
-/
import Derived.Test.YtknaoahokopplaaGreatDoorMgtk
import Derived.Test.YtknaoahokopplaaGreatDoorMguk
import Derived.Test.YtknaoahokopplaaGreatDoorKpk
import Derived.Shelf.Abstract
import Derived.Shelf.RegionOpen
import Derived.WalkKit
import Derived.WalkSpells
import Derived.WalkLawsBesides
import Derived.BigQuiet
import Derived.Deep.QuietTactic
import Derived.Deep.LoopGhost
import Derived.Lib.OthersKept
import Derived.ScopeJumps
import Derived.WalkMore
import Derived.Maps.AppendAt
import Derived.Lib.SmallJoins
import Derived.Test.YtknaoahokopplaaGreatDoorMghk
import Derived.Test.YtknaoahokopplaaGreatDoorMgsk
import Derived.Shelf.SlSorted.Search
import Derived.Shelf.SlSortCmp.QuietGrown
import Derived.Deep.DrawnRows
namespace Go.Proofs
open Go.RowKit Go.Shelf
set_option maxRecDepth 100000
theorem past_not35 (s:ByteArray) (q:Nat) (h:q<s.size) (hp:pastN false (s.data.toList.drop q)=0):s[q].toNat≠35:=by
 intro e
 rw [drop_at h] at hp
 simp only [pastN] at hp
 split at hp
 · omega
 · omega
theorem both_total (s:ByteArray) (hs:s.size≤1000000) (q:Nat) (fresh:Bool) (h:q<s.size) (hpast:pastN false (s.data.toList.drop q)=0):Both s q fresh:=by
 have h35:=past_not35 s q h hpast
 by_cases h36:s[q].toNat=36
 · exact both_var s hs q h fresh h36 _ rfl
 cases hp:Lib.hasPrefix (s.data.toList.drop q) [91,58]
 · rcases idx_sgn s[q] with hi | ⟨i,hi⟩
   · by_cases h64:s[q].toNat=64
     · exact both_copy s hs q h fresh h64
     · by_cases h92:s[q].toNat=92
       · exact both_esc s hs q h fresh h92
       · exact both_bare s hs q h fresh h36 hi h64 h92 h35 hp
   · exact both_sign s hs q h fresh i hi hp h36
 · have h91:s[q].toNat=91:=by
    apply Classical.byContradiction
    intro hne
    have hz:(s.extract q s.size).size=s.size - q:=ext_size s q
    have:=noPre (s.extract q s.size) (by omega) (by rw [ext_at0 h];exact hne)
    rw [ext_drop,hp] at this
    cases this
   exact both_class s hs q h fresh h91 hp
theorem scan_both (s:ByteArray) (hs:s.size≤32768):∃ toks fa fe,Run s 0 true toks fa fe∧RRun s 0 true toks fa fe∧fa≤s.size:=
 both_runs s (fun q fresh h hp=>both_total s (by omega) q fresh h hp) s.size 0 true (by omega) (by omega)
end Go.Proofs
namespace Go.Proofs
open Go.RowKit Go.Shelf
set_option maxRecDepth 100000
attribute [local go_sem] Oper.semAt_some
theorem scan_long (s:ByteArray) (hs:32768<s.size) (w:World):Calls Tryz.prog 23 #[.string s] w fun e w'=>e = .returned (.tuple #[.slice none 0 0,.agg #[.int .i64 32768,.int .i64 2]])∧Below w.heap.size w w':=by
 have hd:decide ((32768:Int)<(s.size:Int))=true:=by simp;omega
 go_enter Tryz.func23,Tryz.ntmps23
 go_wp2
 go_step3
 go_wp2
 rw [Exit.noGoto_ret]
 exact bodyPost_ret (v := .tuple #[.slice none 0 0,.agg #[.int .i64 32768,.int .i64 2]]) (by simp [results,Tryz.f23,go_sem]) rfl ⟨rfl,(Below.refl _ _).alloc (Nat.le_refl _) _⟩
end Go.Proofs
namespace Go.Proofs
open Go.RowKit Go.Shelf
set_option maxRecDepth 100000
attribute [local go_sem] Oper.semAt_some
theorem TokS.good {L:List UInt8} {fresh:Bool} {k:Int} {l:Nat} {u:Int} {t:List UInt8} {n:Int} (h:TokS L fresh k l u t n) (hL:L.length≤maxLen) (a b:Int):GoodT ⟨k,a,b,u,⟨t.toArray⟩,n⟩:=by
 have sz:∀ x:List UInt8,(⟨x.toArray⟩:ByteArray).size=x.length:=fun x=>size_lit x
 have hd:∀ x:List UInt8,byteAt ⟨x.toArray⟩ 0=((x.getD 0 0).toNat:Int):=fun x=>by simp [byteAt,List.getD_eq_getElem?_getD]
 cases h with
 | var m h0 hm hm0 h32=>
  have h1:=spanN_le isNm (L.drop 1)
  rw [List.length_drop] at h1
  refine ⟨fun _=>⟨?_,?_,fun e => ?_⟩,by simp only;omega⟩
  · simp only [sz,List.length_take];omega
  · simp only [sz,List.length_take];omega
  · simp only [hd] at e
    rw [List.getD_eq_getElem?_getD,List.getElem?_take,if_pos (by omega),h0] at e
    exact absurd e (by decide)
 | cls m h0 h1 hn hn0 h32 h2 h3=>
  have h4:=(List.getElem?_eq_some_iff.1 h3).1
  refine ⟨fun _=>⟨?_,?_,fun _ => ?_⟩,by simp only;omega⟩
  · simp only [sz,List.length_take,List.length_drop];omega
  · simp only [sz,List.length_take,List.length_drop];omega
  · simp only [sz,List.length_take,List.length_drop];omega
 | sgn i c h0 hi=>
  have:=(sgn_bound c).1
  exact ⟨fun e=>by simp only at e;omega,by simp only;omega⟩
 | cpy=>exact ⟨fun e=>by simp only at e;omega,by simp only;omega⟩
 | esx=>exact ⟨fun e=>by simp only at e;omega,by simp only;omega⟩
 | esb=>exact ⟨fun e=>by simp only at e;omega,by simp only;omega⟩
 | esp=>exact ⟨fun e=>by simp only at e;omega,by simp only;omega⟩
 | thn hf he=>
  refine ⟨fun _=>⟨by simp [sz],by simp [sz,maxLen],fun e=>by simp only [hd] at e;exact absurd e (by decide)⟩,by simp only;omega⟩
 | bar=>exact ⟨fun e=>by simp only at e;omega,by simp only;omega⟩
theorem Run.good {s:ByteArray} (hs:s.size≤maxLen) {p:Nat} {fresh:Bool} {toks:List Tok} {fa:Nat} {fe:Int} (h:Run s p fresh toks fa fe):∀ t,t∈toks→GoodT t:=by
 induction h with
 | fin h=>intro t ht;simp at ht
 | bad=>intro t ht;simp at ht
 | @step p fresh q k u l t n ts fa fe hq hlt hb h0 hl hr ih=>
  intro x hx
  rcases List.mem_cons.1 hx with rfl | hx
  · have hz:=ext_size s q
    have hS:=hb.tokS (by omega) (by omega)
    rw [ext_drop] at hS
    have:=hS.good (by rw [List.length_drop,Array.length_toList];show s.size - q≤_;omega) q l
    rwa [back_arr] at this
  · exact ih x hx
def NZ {α:Type} (x:Res α):Prop:=∀ a c,x = .no a c→c≠0
theorem NZ.ok {α:Type} (x:α) (r:List Tok):NZ (.ok x r):=fun _ _ e=>by cases e
theorem NZ.no {α:Type} (a c:Int) (h:c≠0):NZ (.no a c:Res α):=fun _ _ e=>by cases e;exact h
theorem NZ.bind {α β:Type} {x:Res α} {f:α→List Tok→Res β} (h:NZ x) (k:∀ a r,NZ (f a r)):NZ (x.bind f):=by
 cases x with
 | ok a r=>exact k a r
 | no a c=>exact NZ.no a c (h a c rfl)
theorem nz_want (e n:Int) (ts:List Tok):NZ (wantT e n ts):=by
 unfold wantT
 split
 · exact NZ.ok _ _
 · exact NZ.no _ _ (by decide)
theorem nz_upTo (e:Int) (f:Tok):∀ ts,NZ (upToT e f ts)
 | []=>NZ.no _ _ (by decide)
 | t::r=>by
  simp only [upToT]
  split
  · split
    · exact NZ.ok _ _
    · exact NZ.no _ _ (by decide)
  · exact NZ.no _ _ (by decide)
theorem nz_row (e:Int) (may:Nat) {it:List Tok→Res It} (hi:∀ ts,NZ (it ts)):∀ (d:Nat) (ts:List Tok),NZ (rowT e may it d ts)
 | 0,ts=>by
  unfold rowT
  split
  · exact NZ.no _ _ (by decide)
  · exact NZ.ok _ _
 | d+1,ts=>by
  unfold rowT
  split
  · exact (hi ts).bind fun x r=>(nz_row e may hi d r).bind fun xs r2=>NZ.ok _ _
  · exact NZ.ok _ _
theorem nz_item (e:Int) (may:Nat) {sets:List Tok→Res (List It)} {pairs:List Tok→Res It} (h1:may.testBit 5=true→∀ ts,NZ (sets ts)) (h2:may.testBit 7=true→∀ ts,NZ (pairs ts)) (h0:may.testBit 0=false):∀ ts,NZ (itemT e may sets pairs ts)
 | []=>NZ.no _ _ (by decide)
 | t::r=>by
  simp only [itemT]
  split
  · rename_i hb
    have hbg:begun (which t)=0∨begun (which t)=1∨begun (which t)=2∨begun (which t)=3∨begun (which t)=4∨begun (which t)=5∨begun (which t)=7:=by
     unfold begun
     repeat (split;· simp)
     simp
    rcases hbg with e1 | e1 | e1 | e1 | e1 | e1 | e1
    · rw [e1,h0] at hb;cases hb
    · simp only [restT,e1]
      split
      · exact nz_upTo _ _ _
      · exact NZ.ok _ _
    · simp only [restT,e1];exact NZ.ok _ _
    · simp only [restT,e1];exact NZ.ok _ _
    · simp only [restT,e1];exact NZ.ok _ _
    · simp only [restT,e1]
      rw [e1] at hb
      exact (h1 hb _).bind fun _ _=>(nz_want _ _ _).bind fun _ _=>NZ.ok _ _
    · simp only [restT,e1]
      rw [e1] at hb
      split
      · exact (h2 hb _).bind fun _ _=>NZ.ok _ _
      · exact NZ.ok _ _
  · exact NZ.no _ _ (by decide)
theorem nz_part (e:Int) (ts:List Tok):NZ (partT e ts):=nz_item e 78 (fun h=>absurd h (by decide)) (fun h=>absurd h (by decide)) (by decide) ts
theorem nz_parts (e:Int) (ts:List Tok):NZ (partsT e ts):=nz_row e 78 (nz_part e) 512 ts
theorem nz_side (e:Int) (may:Nat) (hm:may=62∨may=60) (ts:List Tok):NZ (sideT e may ts):=
 nz_item e may (fun _=>nz_parts e) (fun h=>absurd h (by rcases hm with rfl | rfl <;> decide)) (by rcases hm with rfl | rfl <;> decide) ts
theorem nz_piece (e:Int) (ts:List Tok):NZ (pieceT e ts):=nz_item e 386 (fun h=>absurd h (by decide)) (fun _=>nz_side e 60 (.inr rfl)) (by decide) ts
theorem nz_sides (e:Int) (ts:List Tok):NZ (sidesT e ts):=nz_row e 62 (nz_side e 62 (.inl rfl)) 512 ts
theorem nz_result (e:Int) (d:Nat) (ts:List Tok):NZ (resultT e d ts):=nz_row e 386 (nz_piece e) d ts
theorem nz_rule (e:Int) (ts:List Tok):NZ (ruleT e ts):=by
 unfold ruleT
 refine (nz_sides e _).bind fun x r1=>NZ.bind ?_ fun ak r2=>NZ.bind ?_ fun pe r3=>(nz_want _ _ _).bind fun _ r4=>NZ.bind ?_ fun rc r5=>NZ.ok _ _
 · unfold anteT
   split
   · exact (nz_want _ _ _).bind fun _ _=>(nz_sides e _).bind fun _ _=>NZ.ok _ _
   · exact NZ.ok _ _
 · unfold postT
   split
   · exact (nz_sides e _).bind fun _ _=>NZ.ok _ _
   · exact NZ.ok _ _
 · unfold tailT
   refine (nz_result e _ _).bind fun x r => ?_
   split
   · exact (nz_result e _ _).bind fun _ _=>NZ.ok _ _
   · exact NZ.ok _ _
theorem nz_some (e:Int):∀ ts,NZ (someT e ts)
 | []=>nz_rule e []
 | t::r=>by
  simp only [someT]
  split
  · exact NZ.ok _ _
  · split
    · exact (nz_want _ _ _).bind fun _ _=>(nz_side e 62 (.inl rfl) _).bind fun _ _=>NZ.ok _ _
    · exact nz_rule e _
theorem nz_lines (e:Int):∀ (f:Nat) (ts:List Tok),NZ (linesT e f ts)
 | 0,ts=>NZ.ok _ _
 | f+1,ts=>by
  unfold linesT
  split
  · exact NZ.ok _ _
  · refine NZ.bind ?_ fun l r=>(nz_lines e f r).bind fun _ _=>NZ.ok _ _
    exact (nz_some e ts).bind fun _ _=>(nz_want _ _ _).bind fun _ _=>NZ.ok _ _
set_option maxHeartbeats 1000000 in
theorem parse_long (s:ByteArray) (hs:32768<s.size) (w:World):Calls Tryz.prog 13 #[.string s] w fun e w'=>e = .returned (.tuple #[.slice none 0 0,.agg #[.int .i64 32768,.int .i64 2]])∧Below w.heap.size w w':=by
 go_enter Tryz.func13,Tryz.ntmps13
 go_wp2_with fail
 refine (scan_long s hs _).mono ?_
 rintro x w1 ⟨rfl,hb1⟩
 have hF1:FB w1 w.heap.size 0 0:=(FB.new w 0 0).below hb1 (by simp)
 have hB1:Below w.heap.size w w1:=((Below.refl _ w).alloc (Nat.le_refl _) _).trans (hb1.mono (by simp))
 have HB:Hid (Below w.heap.size w w1∧FB w1 w.heap.size 0 0):=⟨hB1,hF1⟩
 have c:=fun o=>(hF1.allocs o).cells
 have c0:=fun o=>(c o).1
 have c1:=fun o=>(c o).2.1
 have c2:=fun o=>(c o).2.2.1
 have c3:=fun o=>(c o).2.2.2
 clear c hb1 hF1 hB1
 go_wp2
 go_region
 all_goals go_wp2
 all_goals
  have K:=(HB.out.2.allocs (.cells #[.int .i64 32768,.int .i64 2] 32)).set 32768 2
  obtain ⟨d0,d1,-,-⟩:=K.cells
  refine bodyPost_ret (v := .tuple #[.slice none 0 0,.agg #[.int .i64 32768,.int .i64 2]]) (by simp [results,Tryz.f13,go_sem,d0,d1]) rfl ?_
  have hb:=((HB.out.1.alloc HB.out.1.size (.cells #[.int .i64 32768,.int .i64 2] 32)).setCell (p:=⟨w.heap.size,0,none⟩) (Nat.le_refl _) (.int .i64 32768)).setCell (p:=⟨w.heap.size,1,none⟩) (Nat.le_refl _) (.int .i64 2)
  exact ⟨rfl,hb.os,hb.tape,hb.output,hb.size,hb.block⟩
def PNo (s:ByteArray) (fa fe:Int):Prop:=fe≠0∧∀ w,Calls Tryz.prog 13 #[.string s] w fun e w'=>e = .returned (.tuple #[.slice none 0 0,.agg #[.int .i64 fa,.int .i64 fe]])∧Below w.heap.size w w'
def PYes (s:ByteArray) (ls:List Ln):Prop:=∀ w,Calls Tryz.prog 13 #[.string s] w fun e w'=>∃ v,e = .returned (.tuple #[v,.agg #[.int .i64 0,.int .i64 0]])∧RowsL w' w.heap.size v ls∧Below w.heap.size w w'
theorem parse_yes (s:ByteArray) (hs:s.size≤32768) (toks:List Tok) (fa:Nat) (h:Run s 0 true toks fa 0) (hl:toks.length≤32768) {ls:List Ln} {r:List Tok} (hS:linesT s.size toks.length toks = .ok ls r):PYes s ls:=fun w=>by
 refine (parse_run s toks fa 0 hs h (h.good (by unfold maxLen;omega)) hl w).mono ?_
 intro x w' hx
 unfold PO at hx
 rw [if_pos rfl,hS] at hx
 obtain ⟨hb,v,rfl,hv⟩:=hx
 exact ⟨v,rfl,hv,hb⟩
theorem run_len {s:ByteArray} {p:Nat} {fresh:Bool} {toks:List Tok} {fa:Nat} {fe:Int} (h:Run s p fresh toks fa fe):toks.length≤s.size - p:=by
 induction h with
 | fin h=>simp
 | bad hq hlt hb he=>simp
 | step hq hlt hb h0 hl hr ih=>
  simp only [List.length_cons]
  omega
end Go.Proofs
namespace Go.Proofs
open Go.RowKit Go.Shelf
theorem bind_ok {α β:Type} {x:Res α} {f:α→List Tok→Res β} {y:β} {r:List Tok} (h:x.bind f = .ok y r):∃ a r1,x = .ok a r1∧f a r1 = .ok y r:=by
 cases x with
 | ok a r1=>exact ⟨a,r1,rfl,h⟩
 | no a c=>cases h
end Go.Proofs
namespace Go.Proofs
open Go.RowKit Go.Shelf
set_option maxRecDepth 100000
attribute [local go_sem] Oper.semAt_some
def Grown (w w':World):Prop:=∃ q os,w'=Go.Sort.grow (w.drewN q) os
theorem Grown.refl (w:World):Grown w w:=⟨0,#[],(Go.Sort.grow_empty _).symm⟩
theorem Grown.trans {w w1 w2:World} (h:Grown w w1) (k:Grown w1 w2):Grown w w2:=by
 obtain ⟨q,os,rfl⟩:=h
 obtain ⟨q',os',rfl⟩:=k
 refine ⟨q+q',os++os',?_⟩
 show Go.Sort.grow (Go.Sort.grow ((w.drewN q).drewN q') os) os'=_
 rw [Go.Sort.grow_grow,World.drewN_drewN]
theorem Grown.alloc {w w1:World} (h:Grown w w1) (o:Obj):Grown w (w1.alloc o):=h.trans ⟨0,#[o],by rw [Go.Sort.alloc_eq_grow];rfl⟩
theorem Grown.quiet {w w1:World} (h:Grown w w1) (n:Nat) (os:Array Obj):Grown w (Go.Sort.grow (w1.drewN n) os):=h.trans ⟨n,os,rfl⟩
theorem Grown.below {w w':World} (h:Grown w w'):Below w.heap.size w w':=by
 obtain ⟨q,os,rfl⟩:=h
 exact below_grown_sl _ w q os (Nat.le_refl _)
theorem Grown.cell {w w':World} (h:Grown w w') {a:Addr} (ha:a.block<w.heap.size):w'.cell? a=w.cell? a:=h.below.cell ha
theorem Grown.cellv {w w':World} (h:Grown w w') {a:Addr} {v:Value} (hv:w.cell? a=some v):w'.cell? a=some v:=by
 obtain ⟨o,ho,_⟩:=cells_of_cell hv
 rw [h.cell (Array.getElem?_eq_some_iff.1 ho).1];exact hv
end Go.Proofs
