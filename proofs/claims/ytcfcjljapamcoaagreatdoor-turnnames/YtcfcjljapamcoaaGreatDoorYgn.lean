/-
  anyMeets 135: whether one of some sets meets another one.
-/
import Derived.Test.YtcfcjljapamcoaaGreatDoorYfn
namespace Go.Proofs
open Go.RowKit Go.Shelf
set_option maxRecDepth 100000
attribute [local go_sem] Oper.semAt_some
theorem closureAny (B:Nat) (sv xv:Value) (s x:List (Int × Int)) (W:World) (hB:W.cell? ⟨B,0,none⟩=some sv) (hs:Rs W sv s) (hx:Rs W xv x) (hsu:Up s) (hxu:Up x) (hsl:s.length≤10000000) (hxl:x.length≤10000000) :
 Calls Tryz.prog 168 #[xv,.pointer (some ⟨B,0,none⟩)] W fun e w'=>e = .returned (.bool (metB s x))∧Below W.heap.size W w':=by
 have HC:Hid (Calls Tryz.prog 139 #[sv,xv] W fun e w'=>e = .returned (.bool (metB s x))∧Below W.heap.size W w'):=meet_any W sv xv s x hs hx hsu hxu hsl hxl
 obtain ⟨sa,sn,sc,rfl⟩:=hs.sl
 obtain ⟨xa,xn,xc,rfl⟩:=hx.sl
 obtain ⟨M,hM⟩:∃ M,metB s x=M:=⟨_,rfl⟩
 rw [hM] at HC ⊢
 clear hs hx hM
 go_enter Tryz.func168,Tryz.ntmps168
 go_wp2_with fail
 refine HC.out.mono ?_
 rintro e w1 ⟨rfl,hb⟩
 have HB:Hid (Below W.heap.size W w1):=hb
 clear hb
 go_wp2
 go_ret
 exact ⟨rfl,HB.out⟩
def IdxQ (w:World) (M:Bool) (e:Ending) (w':World):Prop:=∃ i:Int,e = .returned (.int .i64 i)∧(decide (0≤i)=M) ∧ -1≤i∧i≤100000000∧Below w.heap.size w w'
set_option maxHeartbeats 4000000 in
theorem index_any (B:Nat) (sv lv:Value) (s:List (Int × Int)) (ls:List (List (Int × Int))) (w:World) (hB:w.cell? ⟨B,0,none⟩=some sv) (hs:Rs w sv s) (hl:SR w lv ls) (hsu:Up s) (hlu:∀ x∈ls,Up x∧x.length≤10000000) (hsl:s.length≤10000000) (hll:ls.length≤1000000) :
 Calls Tryz.prog 187 #[lv,.func (.func 168) #[] #[.pointer (some ⟨B,0,none⟩)]] w (IdxQ w (ls.any (metB s))):=by
 obtain ⟨a,cap,rfl,_,hr⟩:=hl
 obtain ⟨n,hn⟩:∃ n,ls.length=n:=⟨_,rfl⟩
 obtain ⟨M,hM⟩:∃ M,ls.any (metB s)=M:=⟨_,rfl⟩
 have eg:∀ args w,(callFunc 168 args).run Tryz.prog w = .ok (.enter 168 args) w:=enters_of Tryz.func168 (by kernel_rfl) rfl
 have H:Hid (ls.length=n∧ls.any (metB s)=M∧(ls=[]∨∃ g o,a=some ⟨g,o,none⟩∧SRd w g o ls)∧(∀ W xv x,Below w.heap.size w W→x∈ls→Rs w xv x→Calls Tryz.prog 168 #[xv,.pointer (some ⟨B,0,none⟩)] W fun e w'=>e = .returned (.bool (metB s x))∧Below W.heap.size W w')):=
  ⟨hn,hM,hr,fun W xv x hb hx hxr=>closureAny B sv xv s x W (cell_below hB hb (Nat.le_refl _)) (hs.below hb (Nat.le_refl _)) (hxr.below hb (Nat.le_refl _)) hsu (hlu x hx).1 hsl (hlu x hx).2⟩
 rw [hM,hn]
 rw [hn] at hll
 clear hs hr hsu hlu hM hn hB
 go_enter Tryz.func187,Tryz.ntmps187
 go_wp2
 go_loopw [8] (fun vi wr=>∃ k:Nat,vi = .int .i64 k∧k≤n∧Hid (Below w.heap.size w wr∧(ls.take k).any (metB s)=false)) (fun vi _=>n - (intOf vi).toNat)
 case atStart=>exact ⟨0,rfl,by omega,Below.refl _ _,rfl⟩
 case round=>
  obtain ⟨k,rfl,hk,HB⟩:=hrel
  by_cases hlt:k<n
  · have hlt':(k:Int)<(n:Int):=by omega
    have hpos:(0:Int)≤(k:Int):=by omega
    have hkl:k<ls.length:=by rw [H.out.1];exact hlt
    obtain ⟨g,o,rfl,hr⟩:=H.out.2.2.1.resolve_left (by rintro rfl;simp at hkl)
    obtain ⟨xv,cx,hx⟩:=hr k hkl
    have cx:=cell_below cx HB.out.1 (Nat.le_refl _)
    have HC:Hid (Calls Tryz.prog 168 #[xv,.pointer (some ⟨B,0,none⟩)] wr fun e w'=>e = .returned (.bool (metB s ls[k]))∧Below wr.heap.size wr w'):=H.out.2.2.2 wr xv _ HB.out.1 (List.getElem_mem hkl) hx
    have HT:Hid ((ls.take (k+1)).any (metB s)=metB s ls[k]∧(metB s ls[k]=true→ls.any (metB s)=true)):=by
     refine ⟨?_,fun h=>List.any_eq_true.2 ⟨_,List.getElem_mem hkl,h⟩⟩
     rw [List.take_succ_eq_append_getElem hkl,List.any_append,HB.out.2]
     simp
    obtain ⟨r,hr9⟩:∃ r,metB s ls[k]=r:=⟨_,rfl⟩
    rw [hr9] at HC HT
    obtain ⟨xa,xn,xc,rfl⟩:=hx.sl
    clear hr hx hr9
    go_wp2_with fail
    refine HC.out.mono ?_
    rintro e w1 ⟨rfl,hb⟩
    have HB1:Hid (Below w.heap.size w w1):=HB.out.1.trans (hb.mono HB.out.1.size)
    clear hb HB HC
    cases r with
    | true=>
     have HMt:Hid (M=true):=by show M=true;rw [←H.out.2.1];exact HT.out.2 rfl
     go_wp2
     go_ret
     exact ⟨k,rfl,by rw [HMt.out];simp,by omega,by omega,HB1.out⟩
    | false=>
     have HF:Hid (Below w.heap.size w w1∧(ls.take (k+1)).any (metB s)=false):=⟨HB1.out,HT.out.1⟩
     clear HB1 HT
     go_wp2
     exact ⟨⟨k+1,by go_num,by omega,HF⟩,by simp [intOf];omega⟩
  · have HF:Hid (M=false∧Below w.heap.size w wr):=by
     have h1:=HB.out.2
     rw [List.take_of_length_le (by rw [H.out.1];omega),H.out.2.1] at h1
     exact ⟨h1,HB.out.1⟩
    clear HB
    go_wp2
    go_ret
    exact ⟨-1,rfl,by rw [HF.out.1];rfl,by omega,by omega,HF.out.2⟩
end Go.Proofs
