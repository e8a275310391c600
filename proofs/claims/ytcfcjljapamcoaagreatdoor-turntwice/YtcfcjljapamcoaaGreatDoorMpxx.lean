/-
  Several texts in one (Xbx Ua2x).
-/
import Derived.Test.YtcfcjljapamcoaaGreatDoorMpsx
import Derived.RangeFuncNested
import Derived.RangeFuncBound
import Derived.RangeFuncCalls
import Derived.RangeFuncLeaves
import Derived.Shelf.Abstract
import Derived.Shelf.RegionOpen
import Derived.WalkKit
import Derived.WalkSpells
import Derived.WalkLawsBesides
import Derived.OwnWalkIn
import Derived.TacticsInMore
import Derived.LoopNIn
import Derived.LoopIn
import Derived.BigQuiet
import Derived.RegionIn
import Derived.Deep.QuietTactic
import Derived.Deep.RegionWith
import Derived.Lib.OthersKept
import Derived.Maps.AppendAt
import Derived.Lib.SmallJoins
import Derived.Shelf.SlSortCmp.QuietGrown
import Derived.Test.YtcfcjljapamcoaaGreatDoorMpvx
import Derived.Test.YtcfcjljapamcoaaGreatDoorMgox
namespace Go.Proofs
open Go.RowKit Go.Shelf
set_option maxRecDepth 100000
attribute [local go_sem] Oper.semAt_some
theorem plR_small (k t:Int × Int) (cu:Int):∀ r∈[plR [k] [t] cu],Go.Proofs.YtcfcjljapamcoaaGreatDoor.Small r 1048576:=by
 intro r hr
 simp only [List.mem_singleton] at hr
 subst hr
 exact ⟨by simp [plR],by simp [plR],by simp [plR],by simp [plR],by simp [plR],by simp [plR],by simp [plR],by simp [plR]⟩
set_option maxHeartbeats 8000000 in
theorem shown19_any (w:World) (hT:Tab w):Calls Tryz.prog 10 #[] w fun e w'=>e = .returned (.bool true)∧Below w.heap.size w w':=by
 have HT:Hid (∀ W,Below w.heap.size w W→Tab W):=fun W hb j v hv=>cell_below (hT j v hv) hb (Nat.le_refl _)
 clear hT
 go_enter Tryz.func10,Tryz.ntmps10
 go_wp2_with fail
 refine (plain34_any w).mono ?_
 rintro e w1 ⟨g1,k1,r1,rfl,hb1,hp1,hg1,hw1⟩
 have HC1:Hid (Calls Tryz.prog 12 #[.agg #[.slice (some ⟨g1,0,none⟩) 1 1]] w1 (TrnQ w1 pl0)):=turn12_any _ pl0 w1 (HT.out w1 hw1) (pl_psr hb1 hp1.now)
 have H1:Hid (Below w.heap.size w w1):=hw1
 clear hb1 hp1 hg1 hw1
 go_wp2_with fail
 refine HC1.out.mono ?_
 rintro e w2 ⟨y1,y2,y3,n,c,rfl,htr,-,hps,hb2⟩
 obtain ⟨rfl,rfl⟩:=pl0_trn htr
 have hps:=(hps rfl).now
 rw [pl0_turn] at hps
 have H2:Hid (PsR w2 (.slice y1 y2 y3) [plR [(120,122)] [(97,99)] 1]∧Below w.heap.size w w2):=⟨hps,H1.out.trans (hb2.mono H1.out.size)⟩
 clear htr hps hb2 HC1
 obtain ⟨W2,hW2⟩:∃ W2,w2.alloc (.cells #[.slice y1 y2 y3] 24)=W2:=⟨_,rfl⟩
 have hb2:Below w2.heap.size w2 W2:=by rw [←hW2];exact (Below.refl _ w2).alloc (Nat.le_refl _) _
 have hk2:W2.heap[w2.heap.size]? = some (.cells #[.slice y1 y2 y3] 24 (0,0)):=by rw [←hW2];exact World.alloc_heap_new _ _
 have HB2:Hid (Below w2.heap.size w2 W2∧W2.heap[w2.heap.size]? = some (.cells #[.slice y1 y2 y3] 24 (0,0))∧w2.heap.size<W2.heap.size∧Below w.heap.size w W2):=⟨hb2,hk2,(Array.getElem?_eq_some_iff.1 hk2).1,H2.out.2.trans (hb2.mono H2.out.2.size)⟩
 clear hb2 hk2
 go_wp2_with fail
 clear hW2
 refine (plain34_any W2).mono ?_
 rintro e w3 ⟨g3,k3,r3,rfl,hb3,hp3,hg3,hw3⟩
 have HB3:Hid (Below W2.heap.size W2 w3∧Below w.heap.size w w3):=⟨hw3,HB2.out.2.2.2.trans (hw3.mono HB2.out.2.2.2.size)⟩
 have HC3:Hid (Calls Tryz.prog 18 #[.agg #[.slice (some ⟨g3,0,none⟩) 1 1]] w3 (OveQ w3 pl0)):=over_any _ pl0 w3 (HT.out w3 HB3.out.2) (pl_psr hb3 hp3.now)
 clear hb3 hp3 hg3 hw3
 go_wp2_with fail
 refine HC3.out.mono ?_
 rintro e w4 ⟨v4,n4,c4,s4,rfl,hO4,hb4,hov⟩
 obtain ⟨rfl,rfl,rfl⟩:=pl0_over hov
 obtain ⟨a4,cp4,rfl,hc4,hr4⟩:=hO4.rs
 obtain ⟨g4,o4,rfl,hrd⟩:=hr4.resolve_left (by simp [plS])
 have c4:=(hrd 0 (by simp [plS])).2
 have e4:plS.length=4:=rfl
 rw [e4] at hc4 ⊢
 have HB4:Hid (Below W2.heap.size W2 w4∧Below w.heap.size w w4∧w4.cell? ⟨g4,o4+1,none⟩=some (.int .i64 119)∧g4<w4.heap.size):=⟨HB3.out.1.trans (hb4.mono HB3.out.1.size),HB3.out.2.trans (hb4.mono HB3.out.2.size),by simpa [plS,rg] using c4,cell_lt c4⟩
 clear hO4 hb4 hov hr4 hrd c4 e4 hc4 HC3
 go_wp2_with fail
 refine (plain34_any w4).mono ?_
 rintro e w5 ⟨g5,k5,r5,rfl,hb5,hp5,hg5,hw5⟩
 obtain ⟨W5,hW5⟩:∃ W5,w5.alloc (.cells #[.slice (some ⟨g5,0,none⟩) 1 1] 24)=W5:=⟨_,rfl⟩
 have hbW:Below w5.heap.size w5 W5:=by rw [←hW5];exact (Below.refl _ w5).alloc (Nat.le_refl _) _
 have hk5:W5.heap[w5.heap.size]? = some (.cells #[.slice (some ⟨g5,0,none⟩) 1 1] 24 (0,0)):=by rw [←hW5];exact World.alloc_heap_new _ _
 have hl5:=blk_lt hb5
 have hbb5:W5.heap[g5]? = some (.cells #[.bool false,.slice none 0 0,.slice (some ⟨k5,0,none⟩) 1 1,.slice none 0 0,.bool false,.slice (some ⟨r5,0,none⟩) 1 1,.int .i64 1] 60 (0,0)):=(hbW.block _ hl5).trans hb5
 have hB5:Below w4.heap.size w4 W5:=hw5.trans (hbW.mono hw5.size)
 have x5:W5.cell? ⟨w5.heap.size,0,none⟩=some (.slice (some ⟨g5,0,none⟩) 1 1):=by rw [cell_of hk5];rfl
 have x6:W5.cell? ⟨g5,6,none⟩=some (.int .i64 1):=by rw [cell_of hbb5];rfl
 have f6:W5.frozen? ⟨g5,6,none⟩=false:=free_of hbb5
 obtain ⟨W6,hW6⟩:∃ W6,W5.setCell ⟨g5,6,none⟩ (.int .i64 0)=W6:=⟨_,rfl⟩
 have hfs:Fr W5 W6 fun k=>k=g5:=by rw [←hW6];exact fr_set W5 g5 6 _
 have hk6:W6.heap[g5]? = some (.cells #[.bool false,.slice none 0 0,.slice (some ⟨k5,0,none⟩) 1 1,.slice none 0 0,.bool false,.slice (some ⟨r5,0,none⟩) 1 1,.int .i64 0] 60 (0,0)):=by rw [←hW6,set_heap hbb5];rfl
 have hp6:=(hp5.fr (fr_below hbW (Nat.le_refl _) fun _=>False) fun _ _ e=>e.elim).fr hfs fun k _ e => .inr e
 have hB6:Below w4.heap.size w4 W6:=by rw [←hW6];exact hB5.setCell hg5 _
 have y5:W6.cell? ⟨w5.heap.size,0,none⟩=some (.slice (some ⟨g5,0,none⟩) 1 1):=(cell_eqb (a:=⟨w5.heap.size,0,none⟩) (hfs.block w5.heap.size (blk_lt hk5) (show ¬ w5.heap.size=g5 by omega))).trans x5
 have HC6:Hid (Calls Tryz.prog 12 #[.agg #[.slice (some ⟨g5,0,none⟩) 1 1]] W6 (TrnQ W6 pl1)):=turn12_any _ pl1 W6 (HT.out W6 (HB4.out.2.1.trans (hB6.mono HB4.out.2.1.size))) (pl_psr hk6 hp6.now)
 have HB6:Hid (Below w4.heap.size w4 W6):=hB6
 clear hb5 hp5 hg5 hw5 hbW hk5 hl5 hbb5 hB5 hfs hk6 hp6 hB6
 go_wp2_with fail
 clear hW5 x5 x6 f6 hW6
 refine HC6.out.mono ?_
 rintro e w7 ⟨z1,z2,z3,n7,c7,rfl,htr,hn7,-,hb7⟩
 obtain ⟨rfl,rfl⟩:=pl1_trn htr
 obtain ⟨rfl,rfl,rfl⟩:=hn7 (by decide)
 have HB7:Hid (Below w4.heap.size w4 w7):=HB6.out.trans (hb7.mono HB6.out.size)
 clear htr hb7 HC6 y5
 obtain ⟨W8,hW8⟩:∃ W8,w7.alloc (.cells #[.slice none 0 0] 24)=W8:=⟨_,rfl⟩
 have g8:Grown w7 W8:=by rw [←hW8];exact (Grown.refl w7).alloc _
 have hs8:W8.heap.size=w7.heap.size+1:=by rw [←hW8];simp only [World.size_alloc]
 obtain ⟨W9,hW9⟩:∃ W9,plW W8 120 122 97 99 1=W9:=⟨_,rfl⟩
 have g9:=plW_grown W8 120 122 97 99 1
 have k9:=plW_blk W8 120 122 97 99 1
 have p9:=plW_parts W8 120 122 97 99 1
 have s9:=plW_size W8 120 122 97 99 1
 rw [hW9] at g9 k9 p9 s9
 rw [hs8] at k9 p9 s9
 obtain ⟨WA,hWA⟩:∃ WA,W9.alloc (.cells #[.slice (some ⟨w7.heap.size+1+1+1+1+1,0,none⟩) 1 1] 24)=WA:=⟨_,rfl⟩
 have gA:Grown W9 WA:=by rw [←hWA];exact (Grown.refl W9).alloc _
 have hkA:WA.heap[W9.heap.size]? = some (.cells #[.slice (some ⟨w7.heap.size+1+1+1+1+1,0,none⟩) 1 1] 24 (0,0)):=by rw [←hWA];exact World.alloc_heap_new _ _
 have hBA:Below w4.heap.size w4 WA:=HB7.out.trans (((g8.trans g9).trans gA).below.mono HB7.out.size)
 have hB2A:Below w2.heap.size w2 WA:=by
  have h1:=HB2.out.1.trans (HB4.out.1.mono HB2.out.1.size)
  exact h1.trans (hBA.mono h1.size)
 have hBwA:Below w.heap.size w WA:=HB4.out.2.1.trans (hBA.mono HB4.out.2.1.size)
 have hW2A:WA.heap[w2.heap.size]? = some (.cells #[.slice y1 y2 y3] 24 (0,0)):=by
  have h1:w4.heap[w2.heap.size]? = some (.cells #[.slice y1 y2 y3] 24 (0,0)):=(HB4.out.1.block _ HB2.out.2.2.1).trans HB2.out.2.1
  exact (hBA.block _ (blk_lt h1)).trans h1
 have q1:WA.cell? ⟨w2.heap.size,0,none⟩=some (.slice y1 y2 y3):=by rw [cell_of hW2A];rfl
 have q2:WA.cell? ⟨W9.heap.size,0,none⟩=some (.slice (some ⟨w7.heap.size+1+1+1+1+1,0,none⟩) 1 1):=by rw [cell_of hkA];rfl
 have q3:WA.cell? ⟨g4,o4+1,none⟩=some (.int .i64 119):=cell_below HB4.out.2.2.1 hBA (Nat.le_refl _)
 have HS:Hid (∀ W,Grown WA W→Calls Tryz.prog 14 #[.agg #[.slice y1 y2 y3],.agg #[.slice (some ⟨w7.heap.size+1+1+1+1+1,0,none⟩) 1 1]] W fun e w'=>e = .returned (.bool true)∧Grown W w'):=fun W hg=>by
  refine samePass_eq _ _ [plR [(120,122)] [(97,99)] 1] W ((H2.out.1.below hB2A (Nat.le_refl _)).grown hg) ?_ (by simp) (plR_small _ _ _)
  have h2:=gA.trans hg
  exact pl_psr ((h2.below.block _ (blk_lt k9)).trans k9) (p9.fr (fr_grown h2 fun _=>False) fun _ _ e=>e.elim).now
 have HW:Hid (Below w.heap.size w WA∧WA.cell? ⟨g4,o4+1,none⟩=some (.int .i64 119)):=⟨hBwA,q3⟩
 have hW9':(((((W8.alloc (.cells #[.int .i64 120,.int .i64 122] 67)).alloc (.cells #[.slice (some ⟨w7.heap.size+1,0,none⟩) 1 1] 40)).alloc (.cells #[.int .i64 97,.int .i64 99] 67)).alloc (.cells #[.int .i64 3,.int .i64 0,.int .i64 0,.slice (some ⟨w7.heap.size+1+1+1,0,none⟩) 1 1] 64)).alloc (.cells #[.bool false,.slice none 0 0,.slice (some ⟨w7.heap.size+1+1,0,none⟩) 1 1,.slice none 0 0,.bool false,.slice (some ⟨w7.heap.size+1+1+1+1,0,none⟩) 1 1,.int .i64 1] 60))=W9:=by
  have:=hW9
  unfold plW at this
  rw [hs8] at this
  exact this
 rw [←hW8] at hW9'
 clear g8 hs8 hW9 g9 k9 p9 s9 gA hkA hBA hB2A hBwA hW2A hW8
 go_wp2_with fail
 refine (HS.out _ (Grown.refl _)).mono ?_
 rintro e wB ⟨rfl,gB⟩
 have qB:wB.cell? ⟨g4,o4+1,none⟩=some (.int .i64 119):=cell_below HW.out.2 gB.below (Nat.le_refl _)
 have HF:Hid (Below w.heap.size w wB):=HW.out.1.trans (gB.below.mono HW.out.1.size)
 clear gB HS q1 q2 q3
 go_wp2
 go_ret
 exact ⟨rfl,HF.out⟩
end Go.Proofs
namespace Go.Proofs
open Go.RowKit Go.Shelf
set_option maxRecDepth 100000
attribute [local go_sem] Oper.semAt_some
attribute [local go_sem ↓] Go.wp_at_zero Go.wp_at_succ
theorem fld0 (W:World) (a d:Option Addr) (b c e f:Nat):(Instr.field 101 (.agg #[.slice a b c,.slice d e f]) 0).run Tryz.prog W = .ok (.slice a b c) W:=by kernel_rfl
set_option maxHeartbeats 4000000 in
theorem rrun_any (v:Value) (rs:List Rl) (s:ByteArray) (w:World) (h:PsR w v rs):Calls Tryz.prog 26 #[.agg #[v],.string s] w fun e w'=>e = .returned (.tuple #[.string (runT rs s),.int .i64 (mayE rs s)])∧Below w.heap.size w w':=by
 have HC:Hid (∀ W,Grown w W→Calls Tryz.prog 57 #[.agg #[v],.string s] W fun e w'=>e = .returned (.int .i64 (mayE rs s))∧Below W.heap.size W w'):=fun W hg=>rmay_any v rs s W (h.grown hg)
 have HP:=Hid.mk' h
 obtain ⟨ra,rc,hv,hx1,hx2⟩:=h
 subst hv
 obtain ⟨n,hn⟩:∃ n,rs.length=n:=⟨_,rfl⟩
 rw [hn] at HC HP ⊢
 clear hx1 hx2 hn
 by_cases hE:mayE rs s=0
 · obtain ⟨st,hw,hs,hF,hall,hck,hG⟩:=may_ok hE
   have HGo:Hid (∀ W,Below w.heap.size w W→Calls Tryz.prog 59 #[.agg #[.slice ra n rc],.string s] W fun e w'=>∃ u1 u2 u3 s1 s2 s3,e = .returned (.agg #[.slice u1 u2 u3,.slice s1 s2 s3])∧IR w' (.slice u1 u2 u3) (endOf rs s).2∧Below W.heap.size W w'):=fun W hb=>(rgo_any _ rs st _ s W (HP.out.below hb (Nat.le_refl _)) hw (by omega)).mono (by
    rintro e w' ⟨uv,sv,d,xs,rfl,⟨u1,u2,u3,rfl⟩,⟨s1,s2,s3,rfl⟩,hO,_,_,_,_,h3,hb'⟩
    obtain ⟨_,rfl⟩:=h3.one hG
    exact ⟨u1,u2,u3,s1,s2,s3,rfl,hO.ir,hb'⟩)
   have hlen:=hG.lens hF hck
   have hl0:(intsU (units s)).length≤16384:=by rw [intsU_length];have:=units_len s;omega
   have HTx:Hid (∀ W u,IR W u (endOf rs s).2→Calls Tryz.prog 58 #[u] W fun e w'=>e = .returned (.string (joinS (endOf rs s).2))∧Below W.heap.size W w'):=fun W u hu=>rtext_any u _ W hu (by omega)
   unfold runT
   rw [if_pos hE,hE]
   rw [hE] at HC
   generalize joinS (endOf rs s).2=T at *
   clear hE hw hs hF hall hck hG hlen hl0
   have hf0:=fld0
   go_enter Tryz.func26,Tryz.ntmps26
   go_wp2_with fail
   refine (HC.out _ (by (repeat (first | exact Grown.refl _ | refine Grown.alloc ?_ _ | refine Grown.drew ?_)))).mono ?_
   rintro e w1 ⟨rfl,hB⟩
   have hk1:=(hB.block w.heap.size (by simp)).trans (heap_alloc_new w _)
   have c1:w1.cell? ⟨w.heap.size,0,none⟩=some (.slice ra n rc):=(cell_of hk1).trans rfl
   have HB:Hid (Below w.heap.size w w1):=((Grown.refl w).alloc _).below.trans (hB.mono (by simp))
   clear hB hk1
   go_wp2_with (first
    | (go_at_call 59;refine (HGo.out _ HB.out).mono ?_;rintro e w2 ⟨u1,u2,u3,s1,s2,s3,rfl,hI2,hb2⟩;have H2:=Hid.mk' (And.intro hI2 hb2);clear hI2 hb2)
    | (go_at_call 58;refine (HTx.out _ _ H2.out.1).mono ?_;rintro e w3 ⟨rfl,hb3⟩;have H3:=Hid.mk' hb3;clear hb3))
   go_ret2
   have hb2:Below w.heap.size w w2:=HB.out.trans (H2.out.2.mono HB.out.size)
   exact ⟨rfl,hb2.trans (H3.out.mono hb2.size)⟩
 · unfold runT
   rw [if_neg hE]
   obtain ⟨E,hE2⟩:∃ E,mayE rs s=E:=⟨_,rfl⟩
   rw [hE2] at hE HC ⊢
   have hE3:(E != 0)=true:=by simpa using hE
   clear hE2
   go_enter Tryz.func26,Tryz.ntmps26
   go_wp2_with (go_at_call 57;refine (HC.out _ (by (repeat (first | exact Grown.refl _ | refine Grown.alloc ?_ _ | refine Grown.drew ?_)))).mono ?_;rintro e w1 ⟨rfl,hB⟩;have HB:=Hid.mk' hB;clear hB)
   go_ret2
   exact ⟨rfl,((Grown.refl w).alloc _).below.trans (HB.out.mono (by simp))⟩
end Go.Proofs
