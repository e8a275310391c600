/-
  Rules in memory, as they read; filled: whether all of a row are sets that have a unit.
-/
import Derived.RangeFuncNested
import Derived.RangeFuncBound
import Derived.RangeFuncCalls
import Derived.RangeFuncLeaves
import Derived.Shelf.Abstract
import Derived.Shelf.RegionOpen
import Derived.WalkKit
import Derived.WalkSpells
import Derived.WalkLawsBesides
import Derived.OwnWalkIn
import Derived.TacticsInMore
import Derived.LoopNIn
import Derived.LoopIn
import Derived.BigQuiet
import Derived.RegionIn
import Derived.Deep.QuietTactic
import Derived.Deep.RegionWith
import Derived.Lib.OthersKept
import Derived.Maps.AppendAt
import Derived.Lib.SmallJoins
import Derived.Deep.DrawnRows
import Derived.Test.YtcfcjljapamcoabGreatDoorMpar
import Derived.Test.YtcfcjljapamcoabGreatDoorMpcr
namespace Go.Proofs
open Go.RowKit Go.Shelf
set_option maxRecDepth 100000
attribute [local go_sem] Oper.semAt_some
theorem Rs.grown {w w':World} {v:Value} {l:List (Int × Int)} (h:Rs w v l) (k:Grown w w'):Rs w' v l:=h.below k.below (Nat.le_refl _)
theorem cell_lt {w:World} {a:Addr} {v:Value} (h:w.cell? a=some v):a.block<w.heap.size:=by
 obtain ⟨o,ho,_⟩:=cells_of_cell h
 exact (Array.getElem?_eq_some_iff.1 ho).1
theorem cell_below {w w':World} {n:Nat} {a:Addr} {v:Value} (h:w.cell? a=some v) (hb:Below n w w') (hn:w.heap.size≤n):w'.cell? a=some v:=
 (hb.cell (p:=a) (Nat.lt_of_lt_of_le (cell_lt h) hn)).trans h
def IsSl (v:Value):Prop:=∃ a n c,v = .slice a n c
theorem Rs.sl {w:World} {v:Value} {l:List (Int × Int)} (h:Rs w v l):IsSl v:=by
 obtain ⟨a,c,rfl,_⟩:=h
 exact ⟨a,_,c,rfl⟩
def SRd (w:World) (g o:Nat) (ls:List (List (Int × Int))):Prop:=∀ (j:Nat) (hj:j<ls.length),∃ sv,w.cell? ⟨g,o+j,none⟩=some sv∧Rs w sv ls[j]
def SR (w:World) (v:Value) (ls:List (List (Int × Int))):Prop:=
 ∃ (a:Option Addr) (cap:Nat),v = .slice a ls.length cap∧ls.length≤cap∧(ls=[]∨∃ g o,a=some ⟨g,o,none⟩∧SRd w g o ls)
theorem SRd.below {w w':World} {n g o:Nat} {ls:List (List (Int × Int))} (h:SRd w g o ls) (hb:Below n w w') (hn:w.heap.size≤n):SRd w' g o ls:=fun j hj=>by
 obtain ⟨sv,h1,h2⟩:=h j hj
 exact ⟨sv,cell_below h1 hb hn,h2.below hb hn⟩
theorem SR.below {w w':World} {n:Nat} {v:Value} {ls:List (List (Int × Int))} (h:SR w v ls) (hb:Below n w w') (hn:w.heap.size≤n):SR w' v ls:=by
 obtain ⟨a,cap,h1,h2,h3 | ⟨g,o,h3,h4⟩⟩:=h
 · exact ⟨a,cap,h1,h2,.inl h3⟩
 · exact ⟨a,cap,h1,h2,.inr ⟨g,o,h3,h4.below hb hn⟩⟩
theorem SR.grown {w w':World} {v:Value} {ls:List (List (Int × Int))} (h:SR w v ls) (k:Grown w w'):SR w' v ls:=h.below k.below (Nat.le_refl _)
theorem SR.sl {w:World} {v:Value} {ls:List (List (Int × Int))} (h:SR w v ls):IsSl v:=by
 obtain ⟨a,c,rfl,_⟩:=h
 exact ⟨a,_,c,rfl⟩
structure Pc where
 k:Int
 u:Int
 y:Int
 tl:List (Int × Int)
def PAt (w:World) (g o:Nat) (p:Pc):Prop:=∃ tv,w.cell? ⟨g,o,none⟩=some (.int .i64 p.k)∧w.cell? ⟨g,o+1,none⟩=some (.int .i64 p.u)∧w.cell? ⟨g,o+2,none⟩=some (.int .i64 p.y)∧w.cell? ⟨g,o+3,none⟩=some tv∧Rs w tv p.tl
theorem PAt.below {w w':World} {n g o:Nat} {p:Pc} (h:PAt w g o p) (hb:Below n w w') (hn:w.heap.size≤n):PAt w' g o p:=by
 obtain ⟨tv,h0,h1,h2,h3,h4⟩:=h
 exact ⟨tv,cell_below h0 hb hn,cell_below h1 hb hn,cell_below h2 hb hn,cell_below h3 hb hn,h4.below hb hn⟩
def PRd (w:World) (g o:Nat) (ps:List Pc):Prop:=∀ (j:Nat) (hj:j<ps.length),PAt w g (o+j*4) ps[j]
def PR (w:World) (v:Value) (ps:List Pc):Prop:=
 ∃ (a:Option Addr) (cap:Nat),v = .slice a ps.length cap∧ps.length≤cap∧(ps=[]∨∃ g o,a=some ⟨g,o,none⟩∧PRd w g o ps)
theorem PRd.below {w w':World} {n g o:Nat} {ps:List Pc} (h:PRd w g o ps) (hb:Below n w w') (hn:w.heap.size≤n):PRd w' g o ps:=fun j hj=>(h j hj).below hb hn
theorem PR.below {w w':World} {n:Nat} {v:Value} {ps:List Pc} (h:PR w v ps) (hb:Below n w w') (hn:w.heap.size≤n):PR w' v ps:=by
 obtain ⟨a,cap,h1,h2,h3 | ⟨g,o,h3,h4⟩⟩:=h
 · exact ⟨a,cap,h1,h2,.inl h3⟩
 · exact ⟨a,cap,h1,h2,.inr ⟨g,o,h3,h4.below hb hn⟩⟩
theorem PR.sl {w:World} {v:Value} {ps:List Pc} (h:PR w v ps):IsSl v:=by
 obtain ⟨a,c,rfl,_⟩:=h
 exact ⟨a,_,c,rfl⟩
structure Rl where
 bg:Bool
 en:Bool
 cu:Int
 ante:List (List (Int × Int))
 key:List (List (Int × Int))
 post:List (List (Int × Int))
 res:List Pc
structure RR (w:World) (av kv pv rv:Value) (r:Rl):Prop where
 a:SR w av r.ante
 k:SR w kv r.key
 p:SR w pv r.post
 r:PR w rv r.res
theorem RR.below {w w':World} {n:Nat} {av kv pv rv:Value} {r:Rl} (h:RR w av kv pv rv r) (hb:Below n w w') (hn:w.heap.size≤n):RR w' av kv pv rv r:=⟨h.a.below hb hn,h.k.below hb hn,h.p.below hb hn,h.r.below hb hn⟩
theorem RR.grown {w w':World} {av kv pv rv:Value} {r:Rl} (h:RR w av kv pv rv r) (k:Grown w w'):RR w' av kv pv rv r:=h.below k.below (Nat.le_refl _)
def okS (l:List (Int × Int)):Bool:=validB l && !l.isEmpty
theorem tot_pos {l:List (Int × Int)} (h:∀ x∈l,Whole x) (h0:l≠[]):0<tot l:=by
 match l,h0 with
 | x::r,_=>
  have h1:=(h x (by simp)).1
  have h2:=tot_bound (l:=r) (fun y hy=>h y (by simp [hy]))
  have h3:tot (x::r)=(x.2 - x.1+1)+tot r:=by simp [tot]
  omega
theorem lenU_ok {l:List (Int × Int)} (h:okS l=true):0<lenU l:=by
 simp only [okS,Bool.and_eq_true,Bool.not_eq_true',List.isEmpty_eq_false_iff] at h
 have hv:=(validB_iff l).1 h.1
 unfold lenU
 rw [if_pos h.1]
 exact tot_pos hv.2.1 h.2
theorem lenU_no {l:List (Int × Int)} (h:okS l=false):lenU l=0:=by
 unfold lenU
 by_cases hv:validB l=true
 · rw [if_pos hv]
   simp only [okS,hv,Bool.true_and,Bool.not_eq_false',List.isEmpty_iff] at h
   rw [h];rfl
 · rw [if_neg hv]
theorem all_succ {α:Type} (f:α→Bool) {l:List α} {k:Nat} (hk:k<l.length):(l.take (k+1)).all f=((l.take k).all f && f l[k]):=by
 rw [List.take_succ_eq_append_getElem hk,List.all_append];simp
theorem all_stop {α:Type} (f:α→Bool) {l:List α} {k:Nat} (hk:k<l.length) (h:f l[k]=false):l.all f=false:=by
 rw [List.all_eq_false]
 exact ⟨_,List.getElem_mem hk,by simp [h]⟩
set_option maxHeartbeats 1000000 in
theorem filled_nil (a:Option Addr) (c:Nat) (w:World):Calls Tryz.prog 119 #[.slice a 0 c] w fun e w'=>e = .returned (.bool true)∧Grown w w':=by
 go_enter Tryz.func119,Tryz.ntmps119
 go_wp2
 go_loopw [7] (fun vi wr=>vi = .int .i64 0∧wr=w) (fun _ _=>0)
 case atStart=>exact ⟨rfl,rfl⟩
 case round=>
  obtain ⟨rfl,rfl⟩:=hrel
  go_wp2
  go_ret
  exact ⟨rfl,Grown.refl _⟩
set_option maxHeartbeats 1000000 in
theorem filled_walk (g o c:Nat) (ls:List (List (Int × Int))) (w:World) (hT:Tab w) (h:SRd w g o ls) (hn1:ls.length≤1000000) :
 Calls Tryz.prog 119 #[.slice (some ⟨g,o,none⟩) ls.length c] w fun e w'=>e = .returned (.bool (ls.all okS))∧Grown w w':=by
 obtain ⟨n,hnn⟩:∃ n,ls.length=n:=⟨_,rfl⟩
 have HN:Hid (ls.length=n):=hnn
 rw [hnn] at hn1 ⊢
 obtain ⟨r,hr⟩:∃ r:Bool,ls.all okS=r:=⟨_,rfl⟩
 have HR:Hid (ls.all okS=r):=hr
 rw [hr]
 clear hr hnn
 have HH:Hid (SRd w g o ls):=h
 have HT:Hid (Tab w):=hT
 clear h hT
 go_enter Tryz.func119,Tryz.ntmps119
 go_wp2
 go_loopw [7] (fun vi wr=>∃ k:Nat,vi = .int .i64 k∧k≤n∧Hid ((ls.take k).all okS=true)∧Grown w wr) (fun vi _=>n - (intOf vi).toNat)
 case atStart=>exact ⟨0,rfl,by omega,by simp [Hid],Grown.refl _⟩
 case round=>
  obtain ⟨k,rfl,hk,hG,hB⟩:=hrel
  by_cases hlt:k<n
  · have hlt':(k:Int)<(n:Int):=by omega
    have hpos:(0:Int)≤(k:Int):=by omega
    have hkl:k<ls.length:=by rw [HN.out];exact hlt
    obtain ⟨sv,hc,hs⟩:=HH.out k hkl
    have hc:=hB.cellv hc
    have HC:Hid (∀ W,Grown wr W→Calls Tryz.prog 111 #[sv] W fun e w'=>e = .returned (.int .i64 (lenU ls[k]))∧Grown W w'):=fun W hW=>len_any sv _ W (HT.out.grown (hB.trans hW)) ((hs.grown hB).grown hW)
    obtain ⟨sa,sn,sc,rfl⟩:=hs.sl
    by_cases hv:okS ls[k]=true
    · have hp:=lenU_ok hv
      have HS:Hid ((ls.take (k+1)).all okS=true):=by show _=true;rw [all_succ okS hkl,hG.out,hv];rfl
      generalize lenU ls[k]=q at HC hp
      have hq:(q == 0)=false:=by simp;omega
      clear hs hv hG
      go_wp2_with (go_at_call 111;refine (HC.out _ (Grown.refl _)).mono ?_;rintro e w' ⟨rfl,hb⟩)
      exact ⟨⟨k+1,by go_num,by omega,HS,hB.trans hb⟩,by simp [intOf];omega⟩
    · have hv':okS ls[k]=false:=by simpa using hv
      have hrf:r=false:=by rw [←HR.out];exact all_stop okS hkl hv'
      have HF:Hid (r=false):=hrf
      rw [lenU_no hv'] at HC
      clear hs hv hv' hG hrf
      go_wp2_with (go_at_call 111;refine (HC.out _ (Grown.refl _)).mono ?_;rintro e w' ⟨rfl,hb⟩)
      go_ret
      have hrf:=HF.out
      exact ⟨by first | rfl | (rw [hrf];rfl),hB.trans hb⟩
  · have hrt:r=true:=by
     rw [←HR.out]
     have:=hG.out
     rwa [List.take_of_length_le (by rw [HN.out];omega)] at this
    have HF:Hid (r=true):=hrt
    clear hG hrt
    go_wp2
    go_ret
    have hrf:=HF.out
    exact ⟨by first | rfl | (rw [hrf];rfl),hB⟩
theorem filled_any (v:Value) (ls:List (List (Int × Int))) (w:World) (hT:Tab w) (h:SR w v ls) (hn:ls.length≤1000000):Calls Tryz.prog 119 #[v] w fun e w'=>e = .returned (.bool (ls.all okS))∧Grown w w':=by
 obtain ⟨a,cap,rfl,_,h⟩:=h
 rcases h with rfl | ⟨g,o,rfl,h⟩
 · exact filled_nil a cap w
 · exact filled_walk g o cap ls w hT h hn
end Go.Proofs
