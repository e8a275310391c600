/-
  Several texts in one (Rbx Jfx).
-/
import Derived.RangeFuncNested
import Derived.RangeFuncBound
import Derived.RangeFuncCalls
import Derived.RangeFuncLeaves
import Derived.Shelf.Abstract
import Derived.Shelf.RegionOpen
import Derived.WalkKit
import Derived.WalkSpells
import Derived.WalkLawsBesides
import Derived.OwnWalkIn
import Derived.TacticsInMore
import Derived.LoopNIn
import Derived.LoopIn
import Derived.BigQuiet
import Derived.RegionIn
import Derived.Deep.QuietTactic
import Derived.Deep.RegionWith
import Derived.Lib.OthersKept
import Derived.Maps.AppendAt
import Derived.Lib.SmallJoins
import Derived.Test.YtcfcjljapamcoaaGreatDoorMpox
import Derived.Shelf.SlSortCmp.QuietGrown
import Derived.Test.YtcfcjljapamcoaaGreatDoorMpdx
namespace Go.Proofs
open Go.RowKit Go.Shelf
set_option maxRecDepth 100000
attribute [local go_sem] Oper.semAt_some
set_option maxHeartbeats 1000000 in
theorem rhas_bad (v:Value) (l:List (Int × Int)) (u:Int) (w:World) (h:Rs w v l) (hv:validB l=false):Calls Tryz.prog 25 #[v,.int .i64 u] w fun e w'=>e = .returned (.bool false)∧Grown w w':=by
 have HC:Hid (Calls Tryz.prog 23 #[v] w fun e w'=>e = .returned (.bool false)∧Grown w w'):=by have:=rvalid_any v l w h;rw [hv] at this;exact this
 clear h hv
 go_enter Tryz.func25,Tryz.ntmps25
 go_wp2_with fail
 refine HC.out.mono ?_
 rintro e w1 ⟨rfl,hb1⟩
 go_wp2
 go_ret
 exact ⟨rfl,hb1⟩
set_option maxHeartbeats 2000000 in
theorem rhas_walk (A:Option Addr) (c:Nat) (l:List (Int × Int)) (u:Int) (w:World) (h:l=[]∨∃ g o,A=some ⟨g,o,none⟩∧Reads w g o l) (hcp:l.length≤c) (hv:validB l=true):Calls Tryz.prog 25 #[.slice A l.length c,.int .i64 u] w fun e w'=>e = .returned (.bool (decide (hasU l u)))∧Grown w w':=by
 have HC:Hid (Calls Tryz.prog 23 #[.slice A l.length c] w fun e w'=>e = .returned (.bool true)∧Grown w w'):=by have:=rvalid_any _ l w ⟨A,c,rfl,hcp,h⟩;rw [hv] at this;exact this
 have hn5:l.length≤512:=((validB_iff l).1 hv).1
 obtain ⟨n,hn⟩:∃ n,l.length=n:=⟨_,rfl⟩
 have HN:Hid (l.length=n):=hn
 have HH:Hid (l=[]∨∃ g o,A=some ⟨g,o,none⟩∧Reads w g o l):=h
 obtain ⟨r,hr⟩:∃ r:Bool,decide (hasU l u)=r:=⟨_,rfl⟩
 have HR:Hid (decide (hasU l u)=r):=hr
 rw [hn] at HC hn5 ⊢
 rw [hr]
 clear hr hn h hv hcp
 go_enter Tryz.func25,Tryz.ntmps25
 go_wp2_with fail
 refine HC.out.mono ?_
 rintro e w1 ⟨rfl,hb1⟩
 go_wp2
 go_loopw [5] (fun vi wr=>∃ k:Nat,vi = .int .i64 k∧k≤n∧Hid (∀ j,j<k→¬ ((rg l j).1≤u∧u≤(rg l j).2))∧wr=w1) (fun vi _=>n - (intOf vi).toNat)
 case atStart=>exact ⟨0,rfl,by omega,fun j hj=>by omega,rfl⟩
 case round=>
  obtain ⟨k,rfl,hk,hT,rfl⟩:=hrel
  by_cases hlt:k<n
  · as_aux_lemma=>
     have hlt':(k:Int)<(n:Int):=by omega
     have hpos:(0:Int)≤(k:Int):=by omega
     have hkl:k<l.length:=by rw [HN.out];exact hlt
     obtain ⟨g,o,hA,hrd⟩:=HH.out.resolve_left (fun e=>by rw [e] at hkl;simp at hkl)
     subst hA
     obtain ⟨a,b,hab⟩:∃ a b:Int,rg l k=(a,b):=⟨_,_,rfl⟩
     obtain ⟨ca,cb⟩:=hrd k hkl
     rw [hab] at ca cb
     simp only at ca cb
     have ca:=hb1.cellv ca
     have cb:=hb1.cellv cb
     have hno:(¬ (a≤u∧u≤b))→Hid (∀ j,j<k+1→¬ ((rg l j).1≤u∧u≤(rg l j).2)):=fun hx j hj=>by
      by_cases e:j=k
      · subst e;rw [hab];exact hx
      · exact hT.out j (by omega)
     have hyes:(a≤u∧u≤b)→Hid (r=true):=fun hx=>by
      show r=true
      rw [←HR.out,decide_eq_true_eq,hasU_iff]
      exact ⟨k,hkl,by rw [hab];exact hx⟩
     clear hab hT hrd
     by_cases h1:a≤u
     · by_cases h2:u≤b
       · as_aux_lemma=>
          have HF:=hyes ⟨h1,h2⟩
          clear hyes hno
          go_wp2
          go_ret
          have hrf:=HF.out
          exact ⟨by first | rfl | (rw [hrf];rfl),hb1⟩
       · as_aux_lemma=>
          have HF:=hno (fun h=>h2 h.2)
          have hd:decide (u≤b)=false:=by simp;omega
          clear hyes hno h2
          go_wp2
          exact ⟨⟨k+1,by go_num,by omega,HF,by trivial⟩,by simp [intOf];omega⟩
     · as_aux_lemma=>
        have HF:=hno (fun h=>h1 h.1)
        have hd:decide (a≤u)=false:=by simp;omega
        clear hyes hno h1
        go_wp2
        exact ⟨⟨k+1,by go_num,by omega,HF,by trivial⟩,by simp [intOf];omega⟩
  · have hrf:r=false:=by
     rw [←HR.out,decide_eq_false_iff_not,hasU_iff]
     rintro ⟨i,hi,hx⟩
     exact hT.out i (by rw [HN.out] at hi;omega) hx
    have HF:Hid (r=false):=hrf
    clear hT hrf
    go_wp2
    go_ret
    have hrf:=HF.out
    exact ⟨by first | rfl | (rw [hrf];rfl),hb1⟩
theorem rhas_any (v:Value) (l:List (Int × Int)) (u:Int) (w:World) (h:Rs w v l):Calls Tryz.prog 25 #[v,.int .i64 u] w fun e w'=>e = .returned (.bool (validB l && decide (hasU l u)))∧Grown w w':=by
 cases hv:validB l with
 | false=>exact rhas_bad v l u w h hv
 | true=>
  obtain ⟨A,c,rfl,hcp,h⟩:=h
  rw [Bool.true_and]
  exact rhas_walk A c l u w h hcp hv
set_option maxHeartbeats 1000000 in
theorem rlen_bad (v:Value) (l:List (Int × Int)) (w:World) (h:Rs w v l) (hv:validB l=false):Calls Tryz.prog 108 #[v] w fun e w'=>e = .returned (.int .i64 0)∧Grown w w':=by
 have HC:Hid (Calls Tryz.prog 23 #[v] w fun e w'=>e = .returned (.bool false)∧Grown w w'):=by have:=rvalid_any v l w h;rw [hv] at this;exact this
 clear h hv
 go_enter Tryz.func108,Tryz.ntmps108
 go_wp2_with fail
 refine HC.out.mono ?_
 rintro e w1 ⟨rfl,hb1⟩
 go_wp2
 go_ret
 exact ⟨rfl,hb1⟩
set_option maxHeartbeats 2000000 in
theorem rlen_walk (A:Option Addr) (c:Nat) (l:List (Int × Int)) (w:World) (h:l=[]∨∃ g o,A=some ⟨g,o,none⟩∧Reads w g o l) (hcp:l.length≤c) (hv:validB l=true):Calls Tryz.prog 108 #[.slice A l.length c] w fun e w'=>e = .returned (.int .i64 (tot l))∧Grown w w':=by
 have HC:Hid (Calls Tryz.prog 23 #[.slice A l.length c] w fun e w'=>e = .returned (.bool true)∧Grown w w'):=by have:=rvalid_any _ l w ⟨A,c,rfl,hcp,h⟩;rw [hv] at this;exact this
 have hv':=(validB_iff l).1 hv
 obtain ⟨n,hn⟩:∃ n,l.length=n:=⟨_,rfl⟩
 have HN:Hid (l.length=n):=hn
 have HW:Hid (∀ x∈l,Whole x):=hv'.2.1
 have HH:Hid (l=[]∨∃ g o,A=some ⟨g,o,none⟩∧Reads w g o l):=h
 obtain ⟨r,hr⟩:∃ r:Int,tot l=r:=⟨_,rfl⟩
 have HR:Hid (tot l=r):=hr
 have hn5:n≤512:=by omega
 rw [hn] at HC ⊢
 rw [hr]
 clear hr hn h hv hcp hv'
 go_enter Tryz.func108,Tryz.ntmps108
 go_wp2_with fail
 refine HC.out.mono ?_
 rintro e w1 ⟨rfl,hb1⟩
 go_wp2
 go_loopw [3,4] (fun vt vi wr=>∃ k:Nat,∃ t:Int,vi = .int .i64 k∧vt = .int .i64 t∧k≤n∧Hid (tot (l.take k)=t)∧Grown w wr) (fun _ vi _=>n - (intOf vi).toNat)
 case atStart=>exact ⟨0,0,rfl,rfl,by omega,rfl,hb1⟩
 case round=>
  obtain ⟨k,t,rfl,rfl,hk,hTt,hB⟩:=hrel
  by_cases hlt:k<n
  · as_aux_lemma=>
     have hlt':(k:Int)<(n:Int):=by omega
     have hpos:(0:Int)≤(k:Int):=by omega
     have hkl:k<l.length:=by rw [HN.out];exact hlt
     obtain ⟨g,o,hA,hrd⟩:=HH.out.resolve_left (fun e=>by rw [e] at hkl;simp at hkl)
     subst hA
     obtain ⟨a,b,hab⟩:∃ a b:Int,rg l k=(a,b):=⟨_,_,rfl⟩
     obtain ⟨ca,cb⟩:=hrd k hkl
     rw [hab] at ca cb
     simp only at ca cb
     have ca:=hB.cellv ca
     have cb:=hB.cellv cb
     have hw:Whole (a,b):=by rw [←hab,rg_lt hkl];exact HW.out _ (List.getElem_mem hkl)
     have hb0:0≤t∧t≤512*1114368:=by
      have:=tot_bound (l:=l.take k) (fun x hx=>HW.out x (List.mem_of_mem_take hx))
      rw [hTt.out,List.length_take] at this
      omega
     obtain ⟨t1,t2⟩:=hb0
     have hab0:a≤b∧0≤a∧b≤1114367:=by rw [whole_iff] at hw;omega
     obtain ⟨a1,a2,a3⟩:=hab0
     have HS:Hid (tot (l.take (k+1))=t+b - a+1):=by have:=tot_succ hkl;rw [hTt.out,hab] at this;show _=_;rw [this];omega
     clear hab hTt hw hrd
     go_wp2
     go_quiet (fail)
     go_wp2
     exact ⟨⟨k+1,t+b - a+1,by go_num,by go_num,by omega,HS,hB.drewN _⟩,by simp [intOf];omega⟩
  · have hrf:t=r:=by
     rw [←HR.out,←hTt.out,List.take_of_length_le (by rw [HN.out];omega)]
    have HF:Hid (t=r):=hrf
    clear hTt hrf
    go_wp2
    go_ret
    exact ⟨by rw [HF.out];rfl,hB⟩
theorem rlen_any (v:Value) (l:List (Int × Int)) (w:World) (h:Rs w v l):Calls Tryz.prog 108 #[v] w fun e w'=>e = .returned (.int .i64 (lenU l))∧Grown w w':=by
 unfold lenU
 cases hv:validB l with
 | false=>exact rlen_bad v l w h hv
 | true=>
  obtain ⟨A,c,rfl,hcp,h⟩:=h
  exact rlen_walk A c l w h hcp hv
end Go.Proofs
namespace Go.Proofs
open Go.RowKit Go.Shelf
set_option maxRecDepth 100000
attribute [local go_sem] Oper.semAt_some
attribute [local go_sem ↓] Go.wp_at_zero Go.wp_at_succ
def nthV (r:Option Int):Value := .tuple #[.int .i64 (r.getD 0),.bool r.isSome]
def partU (f t:List (Int × Int)) (u:Int):Int:=(nthU t (if hasB f u then placeU f u else 0)).getD 0
def unitAt (us:List Int) (y:Int):Int:=us[y.toNat]?.getD 0
def wrt (key:List (List (Int × Int))) (us:List Int) (p:Pc):Int:=
 if p.k=3 then partU (keyAt key p.y) p.tl (unitAt us p.y) else if p.k=2 then unitAt us p.y else p.u
def layB (r:Rl) (us:List Int):Bool:=decide (chk r=0) && stB r.key us
def outs (r:Rl) (us:List Int):List Int:=r.res.map (wrt r.key us)
theorem st_len {ls:List (List (Int × Int))} {us:List Int} (h:stB ls us=true):ls.length=us.length:=by
 simp only [stB,Bool.and_eq_true,decide_eq_true_eq] at h
 exact h.1
theorem outs_succ {r:Rl} {us:List Int} {k:Nat} (hk:k<r.res.length):(outs r us).take (k+1)=(outs r us).take k++[wrt r.key us r.res[k]]:=by
 have:k<(outs r us).length:=by simpa [outs] using hk
 rw [List.take_succ_eq_append_getElem this]
 simp [outs]
end Go.Proofs
