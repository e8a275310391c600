/-
  Several texts in one (Xgp Rup).
-/
import Derived.Shelf.Abstract
import Derived.Shelf.RegionOpen
import Derived.WalkKit
import Derived.WalkSpells
import Derived.WalkLawsBesides
import Derived.BigQuiet
import Derived.Deep.QuietTactic
import Derived.Deep.LoopGhost
import Derived.Lib.OthersKept
import Derived.ScopeJumps
import Derived.WalkMore
import Derived.Maps.AppendAt
import Derived.RangeFuncBox
import Derived.Lib.SmallJoins
import Derived.Test.YtknaoahokopplaaGreatDoorMgfp
import Derived.Test.YtknaoahokopplaaGreatDoorWcp
namespace Go.Proofs
open Go.RowKit Go.Shelf
set_option maxRecDepth 100000
attribute [local go_sem] Oper.semAt_some
def SJ (s:ByteArray) (toks:List Tok) (fa:Nat) (fe:Int) (w:World) (a':Act) (W:World):Prop:=
 ∃ (p:Nat) (fr:Bool) (pre rest:List Tok) (A:Option Addr) (c:Nat) (u7 u8 u9 u10 u11 u12 u13 u14 u15 u16 u17 u18 u19 u20 u21 u22 u23 u24 u25 u26 u27 u28 u29 u30 u31 u32 u33 u34 u35 u36 u37 u38 u39 u40 u41 u42 u43 u44 u45 u46 u47:Value),a' = { tmps:=#[.string s,undef,.slice none 0 0,.pointer (some ⟨w.heap.size,0,none⟩),.slice A pre.length c,.int .i64 p,.bool fr,u7,u8,u9,u10,u11,u12,u13,u14,u15,u16,u17,u18,u19,u20,u21,u22,u23,u24,u25,u26,u27,u28,u29,u30,u31,u32,u33,u34,u35,u36,u37,u38,u39,u40,u41,u42,u43,u44,u45,u46,u47],defers:=[] } ∧ p≤s.size∧pre.length≤p∧Hid (Run s p fr rest fa fe)∧Hid (toks=pre++rest)∧Hid (OwnT W (w.heap.size+1) (.slice A pre.length c) pre)∧Hid (FB W w.heap.size 0 0)∧Hid (Below w.heap.size w W)
theorem jump_mono {l:Nat} {J J':Act→World→Prop} {Q:Exit→Act→World→Prop} (h:∀ a w,J a w→J' a w):∀ e a w,Exit.jump l J Q e a w→Exit.jump l J' Q e a w:=by
 intro e a w he
 cases e with
 | goto l'=>exact ⟨he.1,h _ _ he.2⟩
 | normal=>exact he
 | exit id=>exact he
 | ret=>exact he
 | panic ch=>exact he
 | outgrown=>exact he
theorem wp_scope_jumps2 {P:Program} {a:Act} {w:World} {Q:Exit→Act→World→Prop} {c rest:Code} (l:Nat) (J:Act→World→Prop) (μ:Act→World→Nat) (hf:findLabel c l=some (Code.skip.seq rest))
 (pass:∀ a w,J a w→rest.wp P (Exit.jump l (fun a' w'=>J a' w'∧μ a' w'<μ a w) Q) a w)
 (first:Hid (∀ a w,J a w→rest.wp P (Exit.jump l J Q) a w)→c.wp P (Exit.jump l J Q) a w):(Code.scope c).wp P Q a w:=
 wp_scope_jumps l J μ hf (first (fun a w h=>wp_mono (pass a w h) (jump_mono fun _ _ k=>k.1))) (fun a w h=>wp_seq (wp_skip (pass a w h)))
set_option maxHeartbeats 1000000 in
theorem scan_run (s:ByteArray) (toks:List Tok) (fa:Nat) (fe:Int) (hs:s.size≤32768) (hR:Run s 0 true toks fa fe) (w:World) :
 Calls Tryz.prog 23 #[.string s] w fun e w'=>∃ v,e = .returned (.tuple #[v,.agg #[.int .i64 fa,.int .i64 fe]])∧(if fe=0 then OwnT w' w.heap.size v toks else v = .slice none 0 0)∧Below w.heap.size w w':=by
 have hd:decide ((32768:Int)<(s.size:Int))=false:=by simp;omega
 have HR:Hid (Run s 0 true toks fa fe):=hR
 clear hR
 go_enter Tryz.func23,Tryz.ntmps23
 go_wp2
 refine wp_scope_jumps2 0 (SJ s toks fa fe w) (fun a' _=>s.size - (intOf (a'.tmps.getD 5 undef)).toNat) rfl ?_ ?_
 · rintro a' w' ⟨p,fr,pre,rest,A,c,u7,u8,u9,u10,u11,u12,u13,u14,u15,u16,u17,u18,u19,u20,u21,u22,u23,u24,u25,u26,u27,u28,u29,u30,u31,u32,u33,u34,u35,u36,u37,u38,u39,u40,u41,u42,u43,u44,u45,u46,u47,rfl,hp,hpl,HRun,HTk,HO,HF,HB⟩
   clear HR
   go_wp2_with fail
   refine (past_any s p _ (by unfold maxLen;omega) hp).mono ?_
   rintro e w'' ⟨rfl,rfl⟩
   have hrun:=HRun.out
   have hqle:p+pastN false (s.data.toList.drop p)≤s.size:=by
    have:=pastN_le false (s.data.toList.drop p)
    simp at this
    omega
   obtain ⟨c0,c1,f0,f1⟩:=HF.out.cells
   clear HRun
   cases hrun with
   | fin h=>
    rw [h]
    clear h hqle
    go_wp2
    simp only [Exit.jump]
    have HF2:=HF.out.set 0 0
    obtain ⟨d0,d1,_,_⟩:=HF2.cells
    refine bodyPost_ret (v := .tuple #[.slice A pre.length c,.agg #[.int .i64 0,.int .i64 0]]) (by simp [results,Tryz.f23,go_sem,d0,d1]) rfl ⟨_,rfl,?_,?_⟩
    · rw [if_pos rfl,HTk.out,List.append_nil]
      exact ((HO.out.kept (grown_setB _ _ _ _) (ownT_apart HO.out)).kept (grown_setB _ _ _ _) (ownT_apart HO.out)).le (Nat.le_succ _)
    · exact (HB.out.setCell (p:=⟨w.heap.size,0,none⟩) (Nat.le_refl _) _).setCell (p:=⟨w.heap.size,1,none⟩) (Nat.le_refl _) _
   | bad hq hlt hb he=>
    rw [←hq]
    have HV:Hid (Tells 47 #[.string (s.extract fa s.size),.bool fr] 0 0 0 0 ⟨#[]⟩ 0 fe):=hb
    have hlt':(fa:Int)<(s.size:Int):=by omega
    clear hqle hq hb
    have hne:((fa:Int) == (s.size:Int))=false:=by simp;omega
    go_wp2_with fail
    refine (HV.out _).mono ?_
    rintro e w2 ⟨rfl,hb2⟩
    have HF2:=HF.out.below hb2 HF.out.lt
    have c0:=fun o=>(HF2.allocs o).cells.1
    have c1:=fun o=>(HF2.allocs o).cells.2.1
    have f0:=fun o=>(HF2.allocs o).cells.2.2.1
    have f1:=fun o=>(HF2.allocs o).cells.2.2.2
    have HB2:=HB.out.trans (hb2.mono HB.out.size)
    have hen:(fe != 0)=true:=by simpa using he
    have hee:(fe == 0)=false:=by simpa using he
    clear hb2
    go_wp2
    simp only [Exit.jump]
    have HF3:=(HF2.allocs (.cells #[.int .i64 0,.int .i64 0,.int .i64 0,.int .i64 0,.string ⟨#[]⟩,.int .i64 0] 52)).set fa fe
    obtain ⟨d0,d1,_,_⟩:=HF3.cells
    refine bodyPost_ret (v := .tuple #[.slice none 0 0,.agg #[.int .i64 fa,.int .i64 fe]]) (by simp [results,Tryz.f23,go_sem,d0,d1]) rfl ⟨_,rfl,by rw [if_neg he],?_⟩
    exact ((HB2.alloc HB2.size _).setCell (p:=⟨w.heap.size,0,none⟩) (Nat.le_refl _) _).setCell (p:=⟨w.heap.size,1,none⟩) (Nat.le_refl _) _
   | @step _ _ q k u l t n toks2 _ _ hq hlt hb h0 hl hr=>
    rw [←hq]
    have HV:Hid (Tells 47 #[.string (s.extract q s.size),.bool fr] k 0 l u t n 0):=hb
    have HR2:Hid (Run s (q+l) (decide (k=11)) toks2 fa fe):=hr
    have hqp:p≤q:=by omega
    have hlt':(q:Int)<(s.size:Int):=by omega
    have hne:((q:Int) == (s.size:Int))=false:=by simp;omega
    clear hqle hq hb hr
    go_wp2_with fail
    refine (HV.out _).mono ?_
    rintro e w2 ⟨rfl,hb2⟩
    have HF2:=HF.out.below hb2 HF.out.lt
    have HB2:=HB.out.trans (hb2.mono HB.out.size)
    have HO2:=HO.out.below hb2 (Nat.le_refl _)
    clear hb2 HO HF HB
    have hY:TB ((w2.alloc (.cells #[.int .i64 k,.int .i64 q,.int .i64 l,.int .i64 u,.string t,.int .i64 n] 52)).alloc (.cells #[.int .i64 k,.int .i64 q,.int .i64 l,.int .i64 u,.string t,.int .i64 n] 52)) (w2.heap.size+1) k q l u t n:=by
     have:=TB.new (w2.alloc (.cells #[.int .i64 k,.int .i64 q,.int .i64 l,.int .i64 u,.string t,.int .i64 n] 52)) k q l u t n
     rwa [World.size_alloc] at this
    have hX:TB ((w2.alloc (.cells #[.int .i64 k,.int .i64 q,.int .i64 l,.int .i64 u,.string t,.int .i64 n] 52)).alloc (.cells #[.int .i64 k,.int .i64 q,.int .i64 l,.int .i64 u,.string t,.int .i64 n] 52)) w2.heap.size k q l u t n:=(Below.heap_alloc _ _ _ (by simp)).trans (TB.new w2 k q l u t n)
    have hz2:w.heap.size+1≤w2.heap.size:=HF2.lt
    have HOL:Hid (∀ j,(Value.slice A pre.length c).ownBlock=some j→j<w2.heap.size∧w.heap.size+1≤j):=fun j hj=>⟨(World.ownsRow.lt HO2 j hj).2,(World.ownsRow.lt HO2 j hj).1⟩
    have HH:Hid (TB ((w2.alloc (.cells #[.int .i64 k,.int .i64 q,.int .i64 l,.int .i64 u,.string t,.int .i64 n] 52)).alloc (.cells #[.int .i64 k,.int .i64 q,.int .i64 l,.int .i64 u,.string t,.int .i64 n] 52)) w2.heap.size k q l u t n∧TB ((w2.alloc (.cells #[.int .i64 k,.int .i64 q,.int .i64 l,.int .i64 u,.string t,.int .i64 n] 52)).alloc (.cells #[.int .i64 k,.int .i64 q,.int .i64 l,.int .i64 u,.string t,.int .i64 n] 52)) (w2.heap.size+1) k q l u t n∧FB w2 w.heap.size 0 0∧Below w.heap.size w w2∧OwnT w2 (w.heap.size+1) (.slice A pre.length c) pre):=⟨hX,hY,HF2,HB2,HO2⟩
    clear hX hY HF2 HB2 HO2
    have hlb:(l:Int)≤32768:=by omega
    have hlq:(q:Int)≤32768:=by omega
    have hl0:(0:Int)≤l:=by omega
    go_wp2_with (at_builtin;go_must (refine push_T rfl _ _ 47 rfl Tryz.underlying47 (w.heap.size+1) _ pre rfl ((HH.out.2.2.2.2.alloc _).alloc _) _ _ ⟨k,q,l,u,t,n⟩ rfl HH.out.2.1 (by omega) (by simp;omega) ?_);intro v' w3 hO1 hgr hb1;obtain ⟨A3,c3,rfl⟩:=formT hO1;rw [show (pre++[(⟨k,q,l,u,t,n⟩:Tok)]).length=pre.length+1 by simp] at hO1 ⊢;have hX3:TB w3 w2.heap.size k q l u t n:=(hgr.block w2.heap.size (by simp;omega) (fun e=>by have:=(HOL.out _ e.symm).1;omega)).trans HH.out.1;obtain ⟨x0,x1,x2,x3,x4,x5⟩:=hX3.cells)
    go_step3
    rw [show (q:Int)+(l:Int)=((q+l:Nat):Int) by simp,show pre.length+1=(pre++[(⟨k,q,l,u,t,n⟩:Tok)]).length by simp]
    refine ⟨rfl,⟨q+l,decide (k=11),pre++[⟨k,q,l,u,t,n⟩],toks2,A3,c3,_,_,_,_,_,_,_,_,_,_,_,_,_,_,_,_,_,_,_,_,_,_,_,_,_,_,_,_,_,_,_,_,_,_,_,_,_,_,_,_,_,rfl,hl,by simp;omega,HR2,by show _=_;rw [HTk.out];simp,by rw [List.length_append];exact hO1,?_,?_⟩,?_⟩
    · exact (hgr.block w.heap.size (by simp;omega) (fun e=>by have:=(HOL.out _ e.symm).2;omega)).trans ((Below.heap_alloc _ _ _ (by simp;omega)).trans ((Below.heap_alloc _ _ _ (by omega)).trans HH.out.2.2.1))
    · exact ((HH.out.2.2.2.1.alloc HH.out.2.2.2.1.size _).alloc (by have:=HH.out.2.2.2.1.size;simp;omega) _).trans (hb1.mono (Nat.le_succ _))
    · simp [intOf]
      omega
 · intro HP
   go_wp2
   go_step3
   rename_i hK
   refine hK _ _ (HP.out _ _ ?_)
   exact ⟨0,true,[],toks,none,0,_,_,_,_,_,_,_,_,_,_,_,_,_,_,_,_,_,_,_,_,_,_,_,_,_,_,_,_,_,_,_,_,_,_,_,_,_,_,_,_,_,rfl,by omega,by simp,HR,rfl,OwnT.nil _ _,FB.new _ _ _,(Below.refl _ _).alloc (Nat.le_refl _) _⟩
end Go.Proofs
namespace Go.Proofs
open Go.RowKit Go.Shelf
set_option maxRecDepth 100000
attribute [local go_sem] Oper.semAt_some
theorem small100 (n:Nat) (h:n≤100):n≤maxLen:=by unfold maxLen;omega
theorem hdv_dgc:∀ d:Fin 16,hdv (Lib.upperB (dgc d.val))=d.val∧isHx (Lib.upperB (dgc d.val))=true:=by decide +kernel
theorem upper_app (a b:List UInt8):Lib.toUpperA (a++b)=Lib.toUpperA a++Lib.toUpperA b:=by simp [Lib.toUpperA]
theorem val_hex:∀ (k n:Nat),n<16 ^ (k+1)→valH (Lib.toUpperA (hexF (k+1) n))=n
 | 0,n,h=>by
  have h16:n<16:=by simpa using h
  rw [hexF_last h16]
  have:=(hdv_dgc ⟨n,h16⟩).1
  simpa [valH,Lib.toUpperA] using this
 | k+1,n,h=>by
  by_cases h16:n<16
  · rw [hexF_last h16]
    have:=(hdv_dgc ⟨n,h16⟩).1
    simpa [valH,Lib.toUpperA] using this
  · have hd:n / 16<16 ^ (k+1):=by rw [Nat.pow_succ] at h;omega
    rw [hexF_step (by omega),upper_app,show Lib.toUpperA [dgc (n % 16)]=[Lib.upperB (dgc (n % 16))] from rfl,valH_snoc,val_hex k (n / 16) hd,(hdv_dgc ⟨n % 16,by omega⟩).1]
    simp only
    omega
theorem all_hex:∀ (k n:Nat),∀ c∈Lib.toUpperA (hexF k n),isHx c=true
 | 0,n,c,h=>by simp [hexF,Lib.toUpperA] at h
 | k+1,n,c,h=>by
  by_cases h16:n<16
  · rw [hexF_last h16] at h
    have e:c=Lib.upperB (dgc n):=by simpa [Lib.toUpperA] using h
    rw [e];exact (hdv_dgc ⟨n,h16⟩).2
  · rw [hexF_step (by omega),upper_app,List.mem_append] at h
    rcases h with h | h
    · exact all_hex k _ c h
    · have e:c=Lib.upperB (dgc (n % 16)):=by simpa [Lib.toUpperA] using h
      rw [e];exact (hdv_dgc ⟨n % 16,by omega⟩).2
theorem hex_pos (u:Nat):0<(hexU u).length:=by
 unfold hexU
 by_cases h16:u<16
 · rw [hexF_last h16];simp [Lib.toUpperA]
 · rw [hexF_step (by omega)];simp [Lib.toUpperA]
theorem hex_two (b:Nat) (h1:16≤b) (h2:b<256):(hexU b).length=2:=by
 unfold hexU
 rw [hexF_step h1,hexF_last (by omega)]
 simp [Lib.toUpperA]
theorem span_app (f:UInt8→Bool):∀ (H:List UInt8) (c:UInt8) (r:List UInt8),(∀ x∈H,f x=true)→f c=false→spanN f (H++c::r)=H.length
 | [],c,r,_,hc=>by rw [List.nil_append,spanN_cons,hc];rfl
 | x::H,c,r,h,hc=>by
  rw [List.cons_append,spanN_cons,h x (by simp),if_pos rfl,span_app f H c r (fun y hy=>h y (by simp [hy])) hc]
  rfl
def brS (c:UInt8) (H:List UInt8):ByteArray:=⟨(92::c::123::(H++[125])).toArray⟩
theorem brS_size (c:UInt8) (H:List UInt8):(brS c H).size=H.length+4:=by
 show (92::c::123::(H++[125])).toArray.size=_
 simp
theorem brS_eq (a b c d:UInt8) (H:List UInt8) (ha:a=92) (hb:b=c) (hd:d=123):(⟨#[a,b,d]⟩:ByteArray)++⟨H.toArray⟩++⟨#[125]⟩=brS c H:=by
 subst ha hb hd
 rw [app_mk,app_mk]
 unfold brS
 congr 1
 apply Array.toList_inj.1
 simp
theorem brS_drop (c:UInt8) (H:List UInt8):((brS c H).extract 3 (brS c H).size).data.toList=H++[125]:=by
 rw [ext_drop];rfl
theorem brS_rest (c:UInt8) (H:List UInt8):(brS c H).extract (3+H.length) (brS c H).size=⟨#[125]⟩:=by
 apply ByteArray.ext
 apply Array.toList_inj.1
 rw [ext_drop]
 show (92::c::123::(H++[125])).drop (3+H.length)=[125]
 rw [Nat.add_comm]
 simp
theorem brS_mid (c:UInt8) (H:List UInt8):((brS c H).extract 3 (3+H.length)).data.toList=H:=by
 have e:((brS c H).extract 3 (3+H.length)).data.toList=((brS c H).data.toList.drop 3).take H.length:=by
  simp only [ByteArray.data_extract,Array.toList_extract,List.extract]
  congr 1
  omega
 rw [e]
 show (H++[125]).take H.length=H
 simp
theorem brS_tells (c:UInt8) (H:List UInt8) (most:Nat) (h6:most≤6) (h0:0<H.length) (hm:H.length≤most) (hx:∀ x∈H,isHx x=true):BTells (brS c H) most (valH H) (3+H.length+1) 0:=fun w=>by
 have hz:=brS_size c H
 exact braced_ok (brS c H) most ⟨#[125]⟩ H.length w (by unfold maxLen;omega) h6 (by omega) rfl (by rw [brS_drop];exact span_app isHx H 125 [] hx (by decide)) (brS_rest c H) hm h0 (by decide +kernel) (by decide) (by decide) (valH H) (by rw [brS_mid])
theorem brS_run (c:UInt8) (H:List UInt8) (u:Nat) (_hc:c.toNat=120∨c.toNat=98) (h6:H.length≤6) (hv:Tells 91 #[.string (brS c H)] 1 0 ((H.length+4:Nat):Int) u ⟨#[]⟩ 0 0):Run (brS c H) 0 true [⟨1,0,(H.length+4:Nat),u,⟨#[]⟩,0⟩] 0 0:=by
 have hz:=brS_size c H
 have h0:pastN false ((brS c H).data.toList.drop 0)=0:=by
  show pastN false (92::c::123::(H++[125]))=0
  simp [pastN,isWs]
 refine Run.step (q:=0) (l:=H.length+4) (by rw [h0]) (by omega) ?_ (by omega) (by omega) (Run.fin ?_)
 · have e:(brS c H).extract 0 (brS c H).size=brS c H:=by
    apply ByteArray.ext
    apply Array.toList_inj.1
    rw [ext_drop];rfl
   rw [e]
   exact first_esc (brS c H) true 1 0 _ u ⟨#[]⟩ 0 0 (by omega) rfl hv
 · rw [List.drop_of_length_le (by show (brS c H).data.toList.length≤_;simp;have:(brS c H).data.size=(brS c H).size:=rfl;omega),hz]
   simp [pastN]
theorem run_hex (u:Nat) (d:Int) (hu:u≤1114111) (hwd:wd u=d) (hd:d≠0):Run (brS 120 (hexU u)) 0 true [⟨1,0,((hexU u).length+4:Nat),u,⟨#[]⟩,0⟩] 0 0:=by
 have hl:(hexU u).length≤6:=by have:=hexF_len 6 u;simpa [hexU,Lib.toUpperA] using this
 have hz:=brS_size 120 (hexU u)
 have hB:=brS_tells 120 (hexU u) 6 (by omega) (hex_pos u) hl (all_hex 6 u)
 rw [show valH (hexU u)=u from val_hex 5 u (Nat.lt_of_le_of_lt hu (by decide))] at hB
 refine brS_run 120 (hexU u) u (.inl rfl) hl (esc_x _ 1 0 _ u ⟨#[]⟩ 0 0 (by omega) rfl ?_)
 have:=eRune_ok (brS 120 (hexU u)) u (3+(hexU u).length+1) d hB (by omega) hwd hd
 rw [show ((3:Int)+((hexU u).length:Int)+1)=(((hexU u).length+4:Nat):Int) by omega] at this
 exact this
theorem run_stray (b:Nat) (h1:128≤b) (h2:b≤255):Run (brS 98 (hexU b)) 0 true [⟨1,0,((hexU b).length+4:Nat),(b+1114112:Nat),⟨#[]⟩,0⟩] 0 0:=by
 have hl:=hex_two b (by omega) (by omega)
 have hz:=brS_size 98 (hexU b)
 have hB:=brS_tells 98 (hexU b) 2 (by omega) (by omega) (by omega) (all_hex 6 b)
 rw [show valH (hexU b)=b from val_hex 5 b (Nat.lt_of_le_of_lt h2 (by decide))] at hB
 refine brS_run 98 (hexU b) (b+1114112) (.inr rfl) (by omega) (esc_b _ 1 0 _ _ ⟨#[]⟩ 0 0 (by omega) rfl ?_)
 have:=eStray_ok (brS 98 (hexU b)) b (3+(hexU b).length+1) hB (by omega) (by omega)
 rw [show ((3:Int)+((hexU b).length:Int)+1)=(((hexU b).length+4:Nat):Int) by omega,show (1114112:Int)+(b:Int)=((b+1114112:Nat):Int) by omega] at this
 exact this
theorem one_facts:∀ u:Fin 128,33≤u.val∧u.val≤126→rsv u.val=false →
 (UInt8.ofNat u.val).toNat≠36∧Lib.hasPrefix [UInt8.ofNat u.val] [91,58]=false∧Lib.indexByte sgnL (UInt8.ofNat u.val) = -1∧(UInt8.ofNat u.val).toNat≠64∧(UInt8.ofNat u.val).toNat≠92∧endsB ⟨#[UInt8.ofNat u.val]⟩=false∧firstU ⟨#[UInt8.ofNat u.val]⟩=((u.val:Int),1)∧pastN false [UInt8.ofNat u.val]=0:=by decide +kernel
theorem run_plain (u:Nat) (h:33≤u∧u≤126) (hr:rsv u=false):Run ⟨#[UInt8.ofNat u]⟩ 0 true [⟨1,0,(1:Nat),u,⟨#[]⟩,0⟩] 0 0:=by
 obtain ⟨f1,f2,f3,f4,f5,f6,f7,f8⟩:=one_facts ⟨u,by omega⟩ h hr
 refine Run.step (q:=0) (l:=1) (by show 0=0+pastN false [UInt8.ofNat u];rw [f8]) (by show 0<1;omega) ?_ (by decide) (by show 0+1≤1;omega) (Run.fin (by rfl))
 exact first_bare2 ⟨#[UInt8.ofNat u]⟩ 1 0 1 u ⟨#[]⟩ 0 0 (small100 _ (by show 1≤100;omega)) (by show 0<1;omega) f1 f2 f3 f4 f5 f6 (fun w=>bare_ok ⟨#[UInt8.ofNat u]⟩ u 1 w (small100 _ (by show 1≤100;omega)) f7 (by omega) (by omega) (by omega) hr)
theorem two_facts:∀ u:Fin 128,(u.val=32∨rsv u.val=true) →
 (UInt8.ofNat u.val).toNat=u.val∧isLt (UInt8.ofNat u.val)=false∧isDg (UInt8.ofNat u.val)=false∧u.val≠120∧u.val≠98∧32≤u.val∧u.val≤126:=by decide +kernel
theorem run_esc (u:Nat) (hu:u<128) (hr:u=32∨rsv u=true):Run ⟨#[92,UInt8.ofNat u]⟩ 0 true [⟨1,0,(2:Nat),u,⟨#[]⟩,0⟩] 0 0:=by
 obtain ⟨f1,f2,f3,f4,f5,f6,f7⟩:=two_facts ⟨u,hu⟩ hr
 simp only at f1 f4 f5 f6 f7
 refine Run.step (q:=0) (l:=2) (by rfl) (by show 0<2;omega) ?_ (by decide) (by show 0+2≤2;omega) (Run.fin (by rfl))
 have h1s:1<(⟨#[92,UInt8.ofNat u]⟩:ByteArray).size:=by show 1<2;omega
 have hE:=esc_ok ⟨#[92,UInt8.ofNat u]⟩ (by show 2≤2;omega) (by show (UInt8.ofNat u).toNat≠120;omega) (by show (UInt8.ofNat u).toNat≠98;omega) (by show 32≤(UInt8.ofNat u).toNat;omega) (by show (UInt8.ofNat u).toNat≤126;omega) f2 f3
 have e:((⟨#[92,UInt8.ofNat u]⟩:ByteArray)[1].toNat:Int)=u:=by show ((UInt8.ofNat u).toNat:Int)=u;omega
 rw [e] at hE
 exact first_esc ⟨#[92,UInt8.ofNat u]⟩ true 1 0 2 u ⟨#[]⟩ 0 0 (by show 0<2;omega) rfl hE
theorem write_both (u:Int):∃ (s:ByteArray) (e:Int),Hid (∀ w,TabB w→Calls Tryz.prog 24 #[.int .i64 u] w fun x w'=>x = .returned (.tuple #[.string s,.int .i64 e])∧Below w.heap.size w w')∧Hid (∀ w:World,Calls Tryz.prog 174 #[.int .i64 u] w fun x w'=>x = .returned (.tuple #[.string s,.int .i64 e])∧Below w.heap.size w w') ∧
 ((wd u=0∧e=1∧s.size=0)∨(wd u≠0∧e=0∧s.size≤100∧Run s 0 true [⟨1,0,s.size,u,⟨#[]⟩,0⟩] 0 0)):=by
 by_cases hw:wd u=0
 · exact ⟨_,_,fun w _=>write_none u w hw,fun w=>rwrite_none u w hw,.inl ⟨hw,rfl,rfl⟩⟩
 have hur:(1114240≤u∧u≤1114367)∨(0≤u∧u≤1114111):=by
  apply Classical.byContradiction
  intro h
  exact hw (wd_no (by omega) (by omega))
 rcases hur with h | h
 · obtain ⟨b,rfl⟩:∃ b:Nat,u=(b:Int)+1114112:=⟨(u - 1114112).toNat,by omega⟩
   have hb1:128≤b:=by omega
   have hb2:b≤255:=by omega
   have es:=brS_eq 92 98 98 123 (hexU b) rfl rfl rfl
   refine ⟨_,0,fun w hT=>write_stray b w hT hb1 hb2,fun w=>rwrite_stray b w hb1 hb2,.inr ⟨hw,rfl,?_,?_⟩⟩
   · rw [show hexB b=⟨(hexU b).toArray⟩ from rfl,es,brS_size];have:=hex_two b (by omega) (by omega);omega
   · rw [show hexB b=⟨(hexU b).toArray⟩ from rfl,es,brS_size]
     have:=run_stray b hb1 hb2
     rw [show ((b+1114112:Nat):Int)=(b:Int)+1114112 by omega] at this
     exact this
 · obtain ⟨v,rfl⟩:∃ v:Nat,u=(v:Int):=⟨u.toNat,by omega⟩
   have hv:v≤1114111:=by omega
   by_cases hx:v<32∨126<v
   · have es:=brS_eq 92 120 120 123 (hexU v) rfl rfl rfl
     have hr:rsv v=false:=by
      cases hc:rsv v
      · rfl
      · have:=rsv_in hc;omega
     refine ⟨_,0,fun w hT=>write_hex v _ w hT rfl hw hv hr hx,fun w=>rwrite_hex v _ w rfl hw hv hx,.inr ⟨hw,rfl,?_,?_⟩⟩
     · rw [show hexB v=⟨(hexU v).toArray⟩ from rfl,es,brS_size]
       have hl:(hexU v).length≤6:=by have:=hexF_len 6 v;simpa [hexU,Lib.toUpperA] using this
       omega
     · rw [show hexB v=⟨(hexU v).toArray⟩ from rfl,es,brS_size]
       exact run_hex v _ hv rfl hw
   · by_cases h32:v=32
     · subst h32
       exact ⟨_,0,fun w _=>write_blank w,fun w=>rwrite_blank w,.inr ⟨hw,rfl,by decide,run_esc 32 (by omega) (.inl rfl)⟩⟩
     · cases hr:rsv v
       · exact ⟨_,0,fun w _=>write_plain v w (by omega) hr,fun w=>rwrite_plain v w (by omega) hr,.inr ⟨hw,rfl,by show 1≤100;omega,run_plain v (by omega) hr⟩⟩
       · exact ⟨_,0,fun w _=>write_esc v w (by omega) hr,fun w=>rwrite_esc v w (by omega) hr,.inr ⟨hw,rfl,by show 2≤100;omega,run_esc v (by omega) (.inr hr)⟩⟩
end Go.Proofs
