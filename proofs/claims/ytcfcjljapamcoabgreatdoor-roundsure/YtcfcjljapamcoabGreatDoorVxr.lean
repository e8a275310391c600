/-
  Has, Len, Place and Nth of a set.
-/
import Derived.RangeFuncNested
import Derived.RangeFuncBound
import Derived.RangeFuncCalls
import Derived.RangeFuncLeaves
import Derived.Shelf.Abstract
import Derived.Shelf.RegionOpen
import Derived.WalkKit
import Derived.WalkSpells
import Derived.WalkLawsBesides
import Derived.OwnWalkIn
import Derived.TacticsInMore
import Derived.LoopNIn
import Derived.LoopIn
import Derived.BigQuiet
import Derived.RegionIn
import Derived.Deep.QuietTactic
import Derived.Deep.RegionWith
import Derived.Lib.OthersKept
import Derived.Maps.AppendAt
import Derived.Lib.SmallJoins
import Derived.Test.YtcfcjljapamcoabGreatDoorMpcr
import Derived.Test.YtcfcjljapamcoabGreatDoorMpfr
namespace Go.Proofs
open Go.RowKit Go.Shelf
set_option maxRecDepth 100000
attribute [local go_sem] Oper.semAt_some
set_option maxHeartbeats 1000000 in
theorem splace_in (g o c:Nat) (l:List (Int × Int)) (u:Int) (w:World) (hT:Tab w) (h:Rs w (.slice (some ⟨g,o,none⟩) l.length c) l) (hv:validB l=true) (hh:hasU l u):Calls Tryz.prog 159 #[.slice (some ⟨g,o,none⟩) l.length c,.int .i64 u] w fun e w'=>e = .returned (.tuple #[.int .i64 (placeU l u),.bool true])∧Grown w w':=by
 have hv':=(validB_iff l).1 hv
 have hlt:fnd l u<l.length:=by
  have h1:=fnd_le l u
  by_cases e:fnd l u=l.length
  · exact absurd hh (hasU_end hv'.2 e)
  · omega
 obtain ⟨k,hk⟩:∃ k,fnd l u=k:=⟨_,rfl⟩
 obtain ⟨n,hn⟩:∃ n,l.length=n:=⟨_,rfl⟩
 obtain ⟨y,hy⟩:∃ y,(rg l k).1=y:=⟨_,rfl⟩
 obtain ⟨t,ht⟩:∃ t,tot (l.take k)=t:=⟨_,rfl⟩
 have HC:Hid (Calls Tryz.prog 26 #[.slice (some ⟨g,o,none⟩) n c,.int .i64 u] w fun e w'=>e = .returned (.tuple #[.int .i64 k,.bool true])∧Grown w w'):=by
  have:=find_any _ l u w hT h
  rw [hv,decide_eq_true hh,hk,hn] at this
  exact this
 have HR:Hid (∀ W,Grown w W→W.cell? ⟨g,o+k*2,none⟩=some (.int .i64 y)):=fun W hW=>by
  obtain ⟨a',cap',hs',_,h'⟩:=h
  cases hs'
  rcases h' with rfl | ⟨g',o',hgo,h'⟩
  · simp at hlt
  · cases hgo
    have:=(h' k (by omega)).1
    rw [hy] at this
    exact hW.cellv this
 have HS:Hid (∀ W,Grown w W→Calls Tryz.prog 137 #[.slice (some ⟨g,o,none⟩) k k] W fun e w'=>e = .returned (.int .i64 t)∧Grown W w'):=fun W hW=>by
  have:=count_any _ (l.take k) W (by rw [List.length_take];omega) (fun x hx=>hv'.2.1 x (List.mem_of_mem_take hx)) ((h.below hW.below (Nat.le_refl _)).take (k:=k) (by omega))
  rw [ht] at this;exact this
 have hcp:n≤c:=by obtain ⟨a',cap',hs',hcp,_⟩:=h;cases hs';omega
 have hP:placeU l u=t+u - y:=by unfold placeU;rw [hk,ht,hy]
 have hw:=good_at hv'.2 (show k<l.length by omega)
 have hys:y≤u∧0≤y∧u≤1114367:=by
  have h1:=(hasU_in hv'.2 hlt).1 hh
  rw [hk,hy] at h1
  have h2:¬ (rg l k).2<u:=fun e=>by have:=(fnd_lt hv'.2 u (show k<l.length by omega)).2 e;omega
  have h3:=hw.2
  rw [hy] at h3
  omega
 have hts:0≤t∧t≤512*1114368:=by
  have:=tot_bound (l:=l.take k) (fun x hx=>hv'.2.1 x (List.mem_of_mem_take hx))
  rw [ht,List.length_take] at this
  omega
 obtain ⟨y1,y2,y3⟩:=hys
 obtain ⟨t1,t2⟩:=hts
 have hkn:(k:Int)<(n:Int):=by omega
 have hk0:(0:Int)≤(k:Int):=by omega
 have hkc:(k:Int)≤(c:Int):=by omega
 rw [hn,hP]
 have hm:=mixed
 clear h hv hh hv' hlt hk hn hy ht hP hw
 go_enter Tryz.func159,Tryz.ntmps159
 go_wp2_with fail
 refine HC.out.mono ?_
 rintro e w1 ⟨rfl,hb1⟩
 have k3:=fun m os=>HR.out (Go.Sort.grow (w1.drewN m) os) (hb1.trans ⟨m,os,rfl⟩)
 have HS1:Hid (∀ m os,Calls Tryz.prog 137 #[.slice (some ⟨g,o,none⟩) k k] (Go.Sort.grow (w1.drewN m) os) fun e w'=>e = .returned (.int .i64 t)∧Grown (Go.Sort.grow (w1.drewN m) os) w'):=fun m os=>HS.out _ (hb1.trans ⟨m,os,rfl⟩)
 go_wp2
 refine wp_region_quiet_grown hm (by kernel_rfl) ?_
 repeat (go_big_quiet_step ((go_at_call 137;exact grown_of (HS1.out _ _))))
 refine wpQuiet_nil ?_
 intro _ hw'
 obtain ⟨⟨nq,osq⟩,hw''⟩:=hw'
 subst hw''
 go_wp2
 go_ret2
 exact ⟨rfl,hb1.quiet _ _⟩
set_option maxHeartbeats 1000000 in
theorem splace_no (v:Value) (l:List (Int × Int)) (u:Int) (w:World) (hT:Tab w) (h:Rs w v l) (hb:(validB l && decide (hasU l u))=false):Calls Tryz.prog 159 #[v,.int .i64 u] w fun e w'=>e = .returned (.tuple #[.int .i64 0,.bool false])∧Grown w w':=by
 have HC:Hid (Calls Tryz.prog 26 #[v,.int .i64 u] w fun e w'=>e = .returned (.tuple #[.int .i64 (if validB l then (fnd l u:Int) else 0),.bool false])∧Grown w w'):=by have:=find_any v l u w hT h;rw [hb] at this;exact this
 generalize (if validB l then (fnd l u:Int) else 0)=a at HC
 clear h hb
 go_enter Tryz.func159,Tryz.ntmps159
 go_wp2_with (go_at_call 26;refine HC.out.mono ?_;rintro e w' ⟨rfl,hb⟩)
 go_ret2
 exact ⟨rfl,hb⟩
theorem splace_any (v:Value) (l:List (Int × Int)) (u:Int) (w:World) (hT:Tab w) (h:Rs w v l):Calls Tryz.prog 159 #[v,.int .i64 u] w fun e w'=>e = .returned (.tuple #[.int .i64 (if validB l && decide (hasU l u) then placeU l u else 0),.bool (validB l && decide (hasU l u))])∧Grown w w':=by
 by_cases hb:(validB l && decide (hasU l u))=true
 · rw [if_pos hb,hb]
   simp only [Bool.and_eq_true,decide_eq_true_eq] at hb
   obtain ⟨a,c,rfl,hcp,hr⟩:=h
   rcases hr with rfl | ⟨g,o,rfl,hr⟩
   · obtain ⟨x,hx,_⟩:=hb.2;simp at hx
   · exact splace_in g o c l u w hT ⟨_,c,rfl,hcp,.inr ⟨g,o,rfl,hr⟩⟩ hb.1 hb.2
 · have hb':(validB l && decide (hasU l u))=false:=by simpa using hb
   rw [if_neg hb,hb']
   exact splace_no v l u w hT h hb'
set_option maxHeartbeats 1000000 in
theorem snth_neg (v:Value) (n:Int) (w:World) (hn:n<0):Calls Tryz.prog 160 #[v,.int .i64 n] w fun e w'=>e = .returned (.tuple #[.int .i64 0,.bool false])∧Grown w w':=by
 go_enter Tryz.func160,Tryz.ntmps160
 go_wp2
 go_ret2
 exact ⟨rfl,Grown.refl _⟩
set_option maxHeartbeats 1000000 in
theorem snth_bad (v:Value) (l:List (Int × Int)) (n:Int) (w:World) (hT:Tab w) (h:Rs w v l) (hn:0≤n) (hv:validB l=false):Calls Tryz.prog 160 #[v,.int .i64 n] w fun e w'=>e = .returned (.tuple #[.int .i64 0,.bool false])∧Grown w w':=by
 have HC:Hid (Calls Tryz.prog 38 #[v] w fun e w'=>e = .returned (.bool false)∧Grown w w'):=by have:=valid_any v l w hT h;rw [hv] at this;exact this
 have hd:decide (n<0)=false:=by simp;omega
 clear h hv
 go_enter Tryz.func160,Tryz.ntmps160
 go_wp2_with (go_at_call 38;refine HC.out.mono ?_;rintro e w' ⟨rfl,hb⟩)
 go_ret2
 exact ⟨rfl,hb⟩
set_option maxHeartbeats 1000000 in
theorem snth_nil (a:Option Addr) (c:Nat) (n:Int) (w:World) (_hT:Tab w) (hn:0≤n):Calls Tryz.prog 160 #[.slice a 0 c,.int .i64 n] w fun e w'=>e = .returned (.tuple #[.int .i64 0,.bool false])∧Grown w w':=by
 have HC:Hid (Calls Tryz.prog 38 #[.slice a 0 c] w fun e w'=>e = .returned (.bool true)∧Grown w w'):=by have:=valid_nil a c w;rw [show validB []=true by decide] at this;exact this
 have hd:decide (n<0)=false:=by simp;omega
 go_enter Tryz.func160,Tryz.ntmps160
 go_wp2_with fail
 refine HC.out.mono ?_
 rintro e w1 ⟨rfl,hb1⟩
 go_wp2
 go_loopw [1,18] (fun vn vi wr=>vi = .int .i64 0∧wr=w1) (fun _ _ _=>0)
 case atStart=>exact ⟨rfl,rfl⟩
 case round=>
  obtain ⟨rfl,rfl⟩:=hrel
  go_wp2
  go_ret2
  exact ⟨rfl,hb1⟩
set_option maxHeartbeats 1000000 in
theorem snth_walk (g o c:Nat) (l:List (Int × Int)) (n0:Int) (w:World) (hT:Tab w) (h:Reads w g o l) (hcp:l.length≤c) (hv:validB l=true) (hn0:0≤n0) (hnm:n0≤9223372036854775807):Calls Tryz.prog 160 #[.slice (some ⟨g,o,none⟩) l.length c,.int .i64 n0] w fun e w'=>e = .returned (nthV (nthL l n0))∧Grown w w':=by
 have hv':=(validB_iff l).1 hv
 obtain ⟨n,hn⟩:∃ n,l.length=n:=⟨_,rfl⟩
 have HN:Hid (l.length=n):=hn
 have HC:Hid (Calls Tryz.prog 38 #[.slice (some ⟨g,o,none⟩) n c] w fun e w'=>e = .returned (.bool true)∧Grown w w'):=by have:=valid_any _ l w hT ⟨_,c,rfl,hcp,.inr ⟨g,o,rfl,h⟩⟩;rw [hv,hn] at this;exact this
 obtain ⟨r,hr⟩:∃ r,nthL l n0=r:=⟨_,rfl⟩
 have HR:Hid (nthL l n0=r):=hr
 have HH:Hid (Reads w g o l):=h
 have HW:Hid (Good l):=hv'.2
 have hd:decide (n0<0)=false:=by simp;omega
 have hn5:n≤512:=by omega
 rw [hn,hr]
 clear hr hn h hv hv' hcp
 go_enter Tryz.func160,Tryz.ntmps160
 go_wp2_with fail
 refine HC.out.mono ?_
 rintro e w1 ⟨rfl,hb1⟩
 go_wp2
 go_loopw [1,18] (fun vn vi wr=>∃ k:Nat,∃ t:Int,vi = .int .i64 k∧vn = .int .i64 t∧k≤n∧0≤t∧t≤9223372036854775807∧Hid (nthL (l.drop k) t=r)∧Grown w wr) (fun _ vi _=>n - (intOf vi).toNat)
 case atStart=>exact ⟨0,n0,rfl,rfl,by omega,hn0,hnm,HR,hb1⟩
 case round=>
  obtain ⟨k,t,rfl,rfl,hk,t1,t2,hTt,hB⟩:=hrel
  by_cases hlt:k<n
  · have hlt':(k:Int)<(n:Int):=by omega
    have hpos:(0:Int)≤(k:Int):=by omega
    have hkl:k<l.length:=by rw [HN.out];exact hlt
    obtain ⟨a,b,hab⟩:∃ a b:Int,rg l k=(a,b):=⟨_,_,rfl⟩
    obtain ⟨ca,cb⟩:=HH.out k hkl
    rw [hab] at ca cb
    simp only at ca cb
    have ca:=hB.cellv ca
    have cb:=hB.cellv cb
    have hw:Whole (a,b):=by rw [←hab];exact good_at HW.out hkl
    have hab0:a≤b∧0≤a∧b≤1114367:=by rw [whole_iff] at hw;omega
    obtain ⟨a1,a2,a3⟩:=hab0
    have HS:Hid ((if t<b - a+1 then some (a+t) else nthL (l.drop (k+1)) (t - (b - a+1)))=r):=by have:=hTt.out;rw [drop_rg hkl,hab] at this;exact this
    clear hab hTt hw
    by_cases ht:t<b - a+1
    · have HS2:Hid (some (a+t)=r):=by have:=HS.out;rw [if_pos ht] at this;exact this
      clear HS
      go_wp2
      go_ret2
      refine ⟨?_,hB.alloc _⟩
      rw [←HS2.out];rfl
    · have HS2:Hid (nthL (l.drop (k+1)) (t - (b - a+1))=r):=by have:=HS.out;rw [if_neg ht] at this;exact this
      have hd2:decide (t<b - a+1)=false:=by simp;omega
      clear HS
      go_wp2
      exact ⟨⟨k+1,t - (b - a+1),by go_num,by go_num,by omega,by omega,by omega,HS2,hB.alloc _⟩,by simp [intOf];omega⟩
  · have HS2:Hid (none=r):=by have:=hTt.out;rw [List.drop_eq_nil_of_le (by rw [HN.out];omega)] at this;exact this
    clear hTt
    go_wp2
    go_ret2
    refine ⟨?_,hB⟩
    rw [←HS2.out];rfl
theorem snth_any (v:Value) (l:List (Int × Int)) (n:Int) (w:World) (hT:Tab w) (h:Rs w v l) (hnm:n≤9223372036854775807):Calls Tryz.prog 160 #[v,.int .i64 n] w fun e w'=>e = .returned (nthV (nthU l n))∧Grown w w':=by
 unfold nthU
 by_cases hn:n<0
 · rw [if_pos (.inl hn)];exact snth_neg v n w hn
 · by_cases hv:validB l=false
   · rw [if_pos (.inr hv)];exact snth_bad v l n w hT h (by omega) hv
   · rw [if_neg (by simp [hv];omega)]
     obtain ⟨a,c,rfl,hcp,hr⟩:=h
     rcases hr with rfl | ⟨g,o,rfl,hr⟩
     · exact snth_nil a c n w hT (by omega)
     · exact snth_walk g o c l n w hT hr hcp (by simpa using hv) (by omega) hnm
end Go.Proofs
