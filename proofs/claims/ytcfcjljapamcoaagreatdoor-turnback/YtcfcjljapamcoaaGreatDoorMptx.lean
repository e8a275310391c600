/-
  Several texts in one (R3x Uzx Tdx Bqx).
-/
import Derived.Test.YtcfcjljapamcoaaGreatDoorZ6x
import Derived.Test.YtcfcjljapamcoaaGreatDoorMgjx
import Derived.RangeFuncNested
import Derived.RangeFuncBound
import Derived.RangeFuncCalls
import Derived.RangeFuncLeaves
import Derived.Shelf.Abstract
import Derived.Shelf.RegionOpen
import Derived.WalkKit
import Derived.WalkSpells
import Derived.WalkLawsBesides
import Derived.OwnWalkIn
import Derived.TacticsInMore
import Derived.LoopNIn
import Derived.LoopIn
import Derived.BigQuiet
import Derived.Deep.QuietTactic
import Derived.Lib.OthersKept
import Derived.Lib.IndexBytes
import Derived.Shelf.Strings.Prefix
import Derived.Shelf.LaysM
import Derived.Test.YtcfcjljapamcoaaGreatDoorMpax
import Derived.RegionIn
import Derived.Below
namespace Go.Proofs
open Go.RowKit Go.Shelf
set_option maxRecDepth 100000
theorem fstE_zero {key:List (List (Int × Int))} : ∀ {ps:List Pc},(∀ p∈ps,pcE key p=0)→fstE key ps=0
 | [],_=>rfl
 | p::ps,h=>by
  unfold fstE
  rw [if_pos (h p (by simp))]
  exact fstE_zero fun q hq=>h q (List.mem_cons_of_mem _ hq)
theorem ok_chk {r:Rl} (h:Ok r):chk r=0:=by
 have h1:=h.k0
 have h2:=h.k8
 have h3:=h.a8
 have h4:=h.p8
 have h5:=h.r16
 have h6:=h.c0
 have h7:=h.c1
 have e:=fstE_zero h.pc
 unfold chk
 rw [if_neg (by omega),if_neg (by omega),if_neg (by rw [h.aS,h.kS,h.pS];simp),if_neg (by rw [e];simp),if_neg (by omega)]
theorem back_turn (r:Rl):backP (turnR r)=[]:=by
 unfold backP turnR
 simp only [Int.toNat_natCast]
 exact List.drop_eq_nil_of_le (by rw [resT_len];exact Nat.le_refl _)
theorem copB_nil {r:Rl} (h:backP r=[]):copB r=false:=by
 unfold copB
 rw [h]
 rfl
theorem bkI_nil {rs:List Rl} (h:∀ r∈rs,backP r=[]):∀ k,bkI rs k=[]
 | 0=>rfl
 | k+1=>by
  rw [bkI,bkI_nil h k]
  cases hk:rs[k]? with
  | none=>rfl
  | some r=>
   simp only [Option.map_some,Option.getD_some,List.nil_append]
   rw [h r (List.mem_of_getElem? hk)]
   rfl
theorem look_nil {st:St} (h:∀ i,at0 st.aq i≤1) (hw:∀ i,at0 st.aq i≤at0 st.ws i):∀ k n,look st k n=none
 | 0,_=>rfl
 | k+1,n=>by
  rw [look,if_neg (by have:=h n;have:=hw n;omega)]
  exact look_nil h hw k (n+1)
theorem settle_nil (rs:List Rl) {st:St} (h:∀ k n,look st k n=none) (last:Nat):∀ f,settleP rs last f st=(true,st)
 | 0=>rfl
 | f+1=>by simp only [settleP,h]
theorem settleAll_nil (rs:List Rl) {st:St} (h:∀ k n,look st k n=none):∀ k n,settleAll rs k n st=(none,st)
 | 0,_=>rfl
 | k+1,n=>by
  rw [settleAll,settle_nil rs h,if_pos rfl]
  exact settleAll_nil rs h k (n+1)
theorem may_still {rs:List Rl} (hO:∀ r∈rs,Ok r) (hn:rs.length≤256) (hb:∀ r∈rs,backP r=[]):chkW rs=(0,0):=by
 refine chkW_fea ?_
 rw [fea_iff]
 have hA:(allE rs).2=0:=by rw [allE_of hn fun r hr=>ok_chk (hO r hr)]
 rw [wgh_of hA fun r hr=>copB_nil (hb r hr)]
 have hs:∀ k n,look (stK rs rs.length) k n=none:=by
  rw [stK_all]
  have e1:∀ i,i<rs.length→at0 (rs.map askI) i≤1:=fun i hi=>by
   rw [at0_lt (by simpa using hi)]
   simp only [List.getElem_map]
   unfold askI
   rw [hb _ (List.getElem_mem hi)]
   have:=(hO _ (List.getElem_mem hi)).k0
   simp only [List.length_nil]
   omega
  have e2:∀ i,¬ i<rs.length→at0 (rs.map askI) i=0:=fun i hi=>by
   unfold at0
   rw [List.getElem?_eq_none (by simp;omega)]
   rfl
  refine look_nil (fun i => ?_) fun i => ?_
  · by_cases hi:i<rs.length
    · exact e1 i hi
    · show at0 (rs.map askI) i≤1
      rw [e2 i hi]
      omega
  · show at0 (rs.map askI) i≤at0 (List.replicate rs.length 1) i
    by_cases hi:i<rs.length
    · rw [at0_lt (l:=List.replicate rs.length 1) (by simpa using hi)]
      simpa using e1 i hi
    · rw [e2 i hi]
      unfold at0
      rw [List.getElem?_eq_none (by simp;omega)]
      decide
 rw [settleAll_nil rs hs]
 exact ⟨_,_,rfl⟩
theorem turned_may {rs:List Rl} (h:∀ r∈rs,Ok r∧Bk r) (hn:rs.length≤256):chkW (rs.map turnR)=(0,0):=by
 refine may_still (fun x hx => ?_) (by simpa using hn) fun x hx => ?_
 · obtain ⟨r,hr,rfl⟩:=List.mem_map.1 hx
   exact turn_ok (h r hr).1 (h r hr).2
 · obtain ⟨r,hr,rfl⟩:=List.mem_map.1 hx
   exact back_turn r
end Go.Proofs
namespace Go.Proofs
open Go.RowKit Go.Shelf
set_option maxRecDepth 100000
attribute [local go_sem] Oper.semAt_some
open Go.RowKit Go.Lib in
def fffd:List UInt8:=[239,191,189]
def strayAt (s:ByteArray) (p:Nat):Bool:=(Utf8.decode s p).1 == 65533 && !Lib.hasPrefix (s.data.toList.drop p) fffd
def uAt (s:ByteArray) (p:Nat):Nat:=if strayAt s p then 1114112+(s.get! p).toNat else (Utf8.decode s p).1
theorem uAt_stray {s:ByteArray} {p:Nat} (h:strayAt s p=true):uAt s p=1114112+(s.get! p).toNat:=by unfold uAt;rw [if_pos h]
theorem uAt_rune {s:ByteArray} {p:Nat} (h:strayAt s p=false):uAt s p=(Utf8.decode s p).1:=by unfold uAt;rw [if_neg (by simp [h])]
theorem get_bang (s:ByteArray) (p:Nat) (hp:p<s.size):s.get! p=s[p]:=by
 simp [ByteArray.get!,getElem!_pos,hp];rfl
theorem dec_lt (s:ByteArray) (p:Nat):(Utf8.decode s p).1<1114112:=by
 unfold Utf8.decode Utf8.runeError Utf8.valid
 simp only
 have:=(s.get! (p+0)).toNat_lt
 repeat' split
 all_goals simp_all
 all_goals omega
def uw (s:ByteArray) (p:Nat):Nat:=(Utf8.decode s p).2
theorem uw_pos (s:ByteArray) (p:Nat):1≤uw s p:=by
 unfold uw Utf8.decode
 simp only
 repeat' split
 all_goals simp
def unitsN (s:ByteArray):Nat→Nat→List (Nat × Nat)
 | 0,_=>[]
 | k+1,p=>if p<s.size then (p,uAt s p)::unitsN s k (p+uw s p) else []
def units (s:ByteArray):List (Nat × Nat):=unitsN s s.size 0
theorem unitsN_end (s:ByteArray) (k p:Nat) (h:¬ p<s.size):unitsN s k p=[]:=by cases k <;> simp [unitsN,h]
theorem unitsN_step (s:ByteArray) (k p:Nat) (h:p<s.size):unitsN s (k+1) p=(p,uAt s p)::unitsN s k (p+uw s p):=by simp [unitsN,h]
theorem uAt_lt (s:ByteArray) (p:Nat):uAt s p<1114368:=by
 have:=dec_lt s p
 have:=(s.get! p).toNat_lt
 unfold uAt;split <;> omega
def UU (s:ByteArray):Type := { x:Nat × Nat // x.1<s.size∧x.2<1114368 }
def UU.mk (s:ByteArray) (p:Nat) (h:p<s.size):UU s:=⟨(p,uAt s p),h,uAt_lt s p⟩
def vals {s:ByteArray} (l:List (UU s)):List (Nat × Nat):=l.map (·.1)
end Go.Proofs
namespace Go.Proofs
open Go.RowKit Go.Shelf
set_option maxRecDepth 100000
attribute [local go_sem] Oper.semAt_some
end Go.Proofs
namespace Go.Proofs
open Go.RowKit Go.Shelf
structure BelowOf (w:World) where
 world:World
 below:Below w.heap.size w world
instance (w:World):Inhabited (BelowOf w):=⟨⟨w,Below.refl _ w⟩⟩
theorem below_drew (w:World) (n:Nat):Below w.heap.size w (w.drewN n):=⟨rfl,rfl,rfl,Nat.le_refl _,fun _ _=>rfl⟩
theorem wp_region_quiet_below {P:Program} {id:Nat} {Q:Exit→Act→World→Prop} {a:Act} {w:World} {l:List Oper} (hm:P.follows .mixedOrders=true) (hB:Region.lexB .any l.toArray=true)
 (h:wpQuiet P l.toArray (fun w'=>∃ p:BelowOf w,w'=p.world) (fun a'=>∀ w',(∃ p:BelowOf w,w'=p.world)→Q .normal a' w') l a):(Code.region id l.toArray true).wp P Q a w:=
 wp_region_quiet (C:=fun w'=>∃ p:BelowOf w,w'=p.world) hm hB ⟨⟨w.drewN 1,below_drew w 1⟩,rfl⟩ (by simpa using h)
theorem below_of {P:Program} {f:FuncId} {args:Array Value} {w:World} {p:BelowOf w} {v:Value}
 (h:Calls P f args p.world fun e w'=>e = .returned v∧Below p.world.heap.size p.world w'):Calls P f args p.world fun e w''=>e = .returned v∧∃ q:BelowOf w,w''=q.world:=
 h.mono fun _ w' ⟨he,hb⟩=>⟨he,⟨w',p.below.trans (hb.mono p.below.size)⟩,rfl⟩
theorem below_same {P:Program} {f:FuncId} {args:Array Value} {w:World} {p:BelowOf w} {v:Value}
 (h:Calls P f args p.world fun e w'=>e = .returned v∧w'=p.world):Calls P f args p.world fun e w''=>e = .returned v∧∃ q:BelowOf w,w''=q.world:=
 h.mono fun _ _ ⟨he,hb⟩=>⟨he,p,hb⟩
end Go.Proofs
