/-
  ParseBack, walked.
-/
import Derived.Test.YtknaoahokopplaaGreatDoorMhlk
import Derived.Test.YtknaoahokopplaaGreatDoorO6k
import Derived.Test.YtknaoahokopplaaGreatDoorMgyk
import Derived.Test.YtknaoahokopplaaGreatDoorMhmk
namespace Go.Proofs
open Go.RowKit Go.Shelf
set_option maxRecDepth 100000
attribute [local go_sem] Oper.semAt_some
theorem all2_flip:∀ {a b:List Ln},All2 SameL a b→All2 (SameA false) b a
 | [],[],_=>trivial
 | _::_,_::_,h=>⟨⟨h.1.symm,fun e=>by cases e⟩,all2_flip h.2⟩
 | [],_::_,h=>h.elim
 | _::_,[],h=>h.elim
theorem linesT_len (e:Int):∀ (f:Nat) (ts:List Tok) (ls:List Ln) (r:List Tok),linesT e f ts = .ok ls r→ls.length≤f
 | 0,ts,ls,r,h=>by
  unfold linesT at h
  cases h
  simp
 | f+1,ts,ls,r,h=>by
  unfold linesT at h
  split at h
  · cases h
    simp
  · cases hl:lineT e ts with
    | no a c=>rw [hl] at h;cases h
    | ok l r1=>
     rw [hl] at h
     simp only [Res.bind] at h
     cases hs:linesT e f r1 with
     | no a c=>rw [hs] at h;cases h
     | ok ls2 r2=>
      rw [hs] at h
      cases h
      have:=linesT_len e f r1 ls2 _ hs
      simp
      omega
theorem parse_both (s:ByteArray):(∃ fa fe,PNo s fa fe∧0≤fa∧fa≤(s.size:Int))∨∃ ls,PYes s ls∧ckAll 3 ls=0∧ls.length≤32768:=by
 rcases parse_at s with h | ⟨hs,toks,fa,ls,r,h1,h2,h3,h4,h5⟩
 · exact .inl h
 · exact .inr ⟨ls,h4,h5 1,by have:=linesT_len _ _ _ _ _ h3;omega⟩
set_option maxHeartbeats 16000000 in
theorem law6_any (d:Nat) (hd3:3≤d) (s:ByteArray) (w:World) (A:Option Addr) (n c:Nat) (ls:List Ln) (hI:RdLz d w A n ls) (hT:∀ l∈ls,TzL d l) (hE0:Env w) (hG:∀ W,Below w.heap.size w W→Calls Tryz.prog 17 #[.slice A n c] W fun x W'=>GrQ n x∧Below W.heap.size W W') :
 Calls Tryz.prog 6 #[.slice A n c,.string s] w fun x w'=>x = .returned (.bool true)∧Below w.heap.size w w':=by
 have HP:Hid ((∃ fa fe,PNo s fa fe∧0≤fa∧fa≤(s.size:Int))∨∃ ls,PYes s ls∧ckAll 3 ls=0∧ls.length≤32768):=parse_both s
 have H0:Hid (RdLz d w A n ls∧(∀ l∈ls,TzL d l)∧Env w∧3≤d∧∀ W,Below w.heap.size w W→Calls Tryz.prog 17 #[.slice A n c] W fun x W'=>GrQ n x∧Below W.heap.size W W'):=⟨hI,hT,hE0,hd3,hG⟩
 clear hI hT hE0 hG hd3
 go_enter Tryz.func6,Tryz.ntmps6
 go_wp2_with fail
 refine (shown_any _).mono ?_
 rintro x w1 ⟨rfl,hb1⟩
 have HB1:Hid (Below w.heap.size w w1):=hb1
 clear hb1
 go_wp2_with fail
 refine (H0.out.2.2.2.2 _ HB1.out).mono ?_
 rintro x w2 ⟨⟨b,rfl,hb⟩,hb2⟩
 have H2:Hid (RdLz d w2 A n ls∧Env w2):=⟨(H0.out.1.ck (ck_below HB1.out)).ck (ck_below hb2),(H0.out.2.2.1.below HB1.out).below hb2⟩
 have HB2:Hid (Below w.heap.size w w2):=HB1.out.trans (hb2.mono HB1.out.size)
 cases b with
 | true=>
  clear hb hb2
  go_wp2
  go_ret
  exact ⟨rfl,HB2.out⟩
 | false=>
  have hn2:Hid (n≤20000):=hb rfl
  clear hb hb2 HB1
  rcases printS_cases (d:=d) ls with ⟨cd,hc0,hpr,_⟩ | ⟨hck,hlen,hpr⟩
  · have HPR:Hid (printS d ls=(⟨#[]⟩,cd)):=hpr
    have ec:(cd == 0)=false:=by simpa using hc0
    clear hpr hc0
    go_wp2_with fail
    have HPA:=print_any d _ A n c ls H2.out.1 H0.out.2.1 (by have:=hn2.out;omega) H2.out.2
    rw [HPR.out] at HPA
    refine HPA.mono ?_
    rintro x w3 ⟨rfl,hb3⟩
    have HB:Hid (Below w.heap.size w w3):=HB2.out.trans (hb3.mono HB2.out.size)
    have HE:Hid (Env w3):=H2.out.2.below hb3
    clear hb3 HPA HPR H2 HB2
    rcases HP.out with ⟨fa,fe,hno,hfa0,hfa1⟩ | ⟨ls5,hyes,hck5,htz5⟩
    · have HN:Hid (PNo s fa fe):=hno
      have d1:(fe != 0)=true:=by simpa using hno.1
      have d2:decide (0≤fa)=true:=by simpa using hfa0
      have d3:decide (fa≤(s.size:Int))=true:=by simpa using hfa1
      clear hno hfa0 hfa1
      go_wp2_with fail
      refine (HN.out.2 _).mono ?_
      rintro x w5 ⟨rfl,hb5⟩
      have hF:FB (w5.alloc (.cells #[.int .i64 fa,.int .i64 fe] 32)) w5.heap.size fa fe:=FB.new w5 fa fe
      have c0:=hF.cells.1
      have c1:=hF.cells.2.1
      have HK:Hid (Below w.heap.size w (w5.alloc (.cells #[.int .i64 fa,.int .i64 fe] 32))):=(HB.out.trans (hb5.mono HB.out.size)).alloc (by have:=HB.out.size;have:=hb5.size;omega) _
      clear hF hb5
      go_wp2
      go_ret
      exact ⟨rfl,HK.out⟩
    · have HY:Hid (PYes s ls5∧ckAll 3 ls5=0):=⟨hyes,hck5⟩
      clear hyes hck5
      go_wp2_with fail
      refine (HY.out.1 _).mono ?_
      rintro x w5 ⟨mv,rfl,hm,hb5⟩
      obtain ⟨mA,mc,rfl,hm2⟩:=hm.rz
      obtain ⟨n5,hn5⟩:∃ n5,ls5.length=n5:=⟨_,rfl⟩
      rw [hn5] at hm2 ⊢
      have HN5:Hid (ls5.length=n5):=hn5
      have HN15:Hid (n5≤1000000000000000):=by show _≤_;have:=htz5;omega
      clear hn5 hm htz5
      have hF:FB (w5.alloc (.cells #[.int .i64 0,.int .i64 0] 32)) w5.heap.size 0 0:=FB.new w5 0 0
      have c1:=hF.cells.2.1
      have hba:Below w5.heap.size w5 (w5.alloc (.cells #[.int .i64 0,.int .i64 0] 32)):=(Below.refl _ w5).alloc (Nat.le_refl _) _
      have HM:Hid (RdLz 3 (w5.alloc (.cells #[.int .i64 0,.int .i64 0] 32)) mA n5 ls5∧Below w.heap.size w (w5.alloc (.cells #[.int .i64 0,.int .i64 0] 32))∧Env (w5.alloc (.cells #[.int .i64 0,.int .i64 0] 32))):=⟨hm2.ck (ck_below hba),(HB.out.trans (hb5.mono HB.out.size)).trans (hba.mono (by have:=HB.out.size;have:=hb5.size;omega)),(HE.out.below hb5).below hba⟩
      clear hm2 hb5 hba hF
      rcases printS_cases (d:=3) ls5 with ⟨c,hc0,hpr,hc2⟩ | ⟨_,hlen,hpr⟩
      · have hc:=hc2 HY.out.2
        subst hc
        clear hc0 hc2
        have HPR:Hid (printS 3 ls5=(⟨#[]⟩,2)):=hpr
        clear hpr
        go_wp2_with fail
        have HPA:=print_any 3 _ mA n5 mc ls5 HM.out.1 (fun l hl=>tzL_none (ckAll_ok HY.out.2 l hl) (HM.out.1.rd.dp l hl)) HN15.out HM.out.2.2
        rw [HPR.out] at HPA
        refine HPA.mono ?_
        rintro x w6 ⟨rfl,hb6⟩
        have HK:Hid (Below w.heap.size w w6):=HM.out.2.1.trans (hb6.mono HM.out.2.1.size)
        clear hb6 HPA
        go_wp2
        go_ret
        exact ⟨rfl,HK.out⟩
      · obtain ⟨ls6,hy6,hs6,hk6,ho6⟩:=back_yes (d:=3) (ls:=ls5) (fun l hl=>⟨ckAll_ok HY.out.2 l hl,HM.out.1.rd.dp l hl⟩) hlen
        have hp6:=printS_back (d:=3) (hk6 1) (by rw [ho6];exact hlen)
        rw [ho6] at hp6
        have hl65:=hs6.length
        obtain ⟨T6,hT6⟩:∃ T6:ByteArray,⟨(outS ls5).toArray⟩=T6:=⟨_,rfl⟩
        rw [hT6] at hpr hy6 hp6
        have HPR:Hid (printS 3 ls5=(T6,0)∧PYes T6 ls6∧All2 SameL ls6 ls5∧(∀ d2,ckAll (d2+1+1) ls6=0)∧printS 3 ls6=(T6,0)∧ls6.length=n5):=⟨hpr,hy6,hs6,hk6,hp6,by rw [hl65];exact HN5.out⟩
        clear hpr hy6 hs6 hk6 ho6 hp6 hlen hT6 hl65
        go_wp2_with fail
        have HPA:=print_any 3 _ mA n5 mc ls5 HM.out.1 (fun l hl=>tzL_none (ckAll_ok HY.out.2 l hl) (HM.out.1.rd.dp l hl)) HN15.out HM.out.2.2
        rw [HPR.out.1] at HPA
        refine HPA.mono ?_
        rintro x w6 ⟨rfl,hb6⟩
        have H6:Hid (RdLz 3 w6 mA n5 ls5∧Below w.heap.size w w6∧Env w6):=⟨HM.out.1.ck (ck_below hb6),HM.out.2.1.trans (hb6.mono HM.out.2.1.size),HM.out.2.2.below hb6⟩
        clear hb6 HPA HM c1
        go_wp2_with fail
        refine (HPR.out.2.1 _).mono ?_
        rintro x w7 ⟨nv,rfl,hm,hb7⟩
        obtain ⟨nA,nc,rfl,hm2⟩:=hm.rz
        rw [HPR.out.2.2.2.2.2] at hm2 ⊢
        clear hm
        have hF:FB (w7.alloc (.cells #[.int .i64 0,.int .i64 0] 32)) w7.heap.size 0 0:=FB.new w7 0 0
        have hba:Below w7.heap.size w7 (w7.alloc (.cells #[.int .i64 0,.int .i64 0] 32)):=(Below.refl _ w7).alloc (Nat.le_refl _) _
        have H7:Hid (RdLz 3 (w7.alloc (.cells #[.int .i64 0,.int .i64 0] 32)) mA n5 ls5∧RdLz 3 (w7.alloc (.cells #[.int .i64 0,.int .i64 0] 32)) nA n5 ls6∧Below w.heap.size w (w7.alloc (.cells #[.int .i64 0,.int .i64 0] 32))∧Env (w7.alloc (.cells #[.int .i64 0,.int .i64 0] 32))∧FB (w7.alloc (.cells #[.int .i64 0,.int .i64 0] 32)) w7.heap.size 0 0):=⟨(H6.out.1.ck (ck_below hb7)).ck (ck_below hba),hm2.ck (ck_below hba),(H6.out.2.1.trans (hb7.mono H6.out.2.1.size)).trans (hba.mono (by have:=H6.out.2.1.size;have:=hb7.size;omega)),(H6.out.2.2.below hb7).below hba,hF⟩
        clear hm2 hb7 hba hF H6
        go_wp2_with fail
        refine (lines_any 3 false _ mA nA n5 n5 mc nc ls5 ls6 HN15.out H7.out.1.rd H7.out.2.1.rd (all2_flip HPR.out.2.2.1)).mono ?_
        rintro x w8 ⟨rfl,hb8⟩
        have H8:Hid (RdLz 3 w8 nA n5 ls6∧Below w.heap.size w w8∧Env w8∧FB w8 w7.heap.size 0 0):=⟨H7.out.2.1.ck (ck_below hb8),H7.out.2.2.1.trans (hb8.mono H7.out.2.2.1.size),H7.out.2.2.2.1.below hb8,H7.out.2.2.2.2.below hb8 H7.out.2.2.2.2.lt⟩
        clear hb8 H7
        go_wp2_with fail
        have HPB:=print_any 3 _ nA n5 nc ls6 H8.out.1 (fun l hl=>tzL_none (ckAll_ok (HPR.out.2.2.2.1 1) l hl) (H8.out.1.rd.dp l hl)) HN15.out H8.out.2.2.1
        rw [HPR.out.2.2.2.2.1] at HPB
        refine HPB.mono ?_
        rintro x w9 ⟨rfl,hb9⟩
        have hF:FB w9 w7.heap.size 0 0:=H8.out.2.2.2.below hb9 H8.out.2.2.2.lt
        have c1:=hF.cells.2.1
        have HK:Hid (Below w.heap.size w w9):=H8.out.2.1.trans (hb9.mono H8.out.2.1.size)
        clear hb9 HPB hF H8
        go_wp2
        go_ret
        exact ⟨rfl,HK.out⟩
  · obtain ⟨ls2,hy2,hs2,hk2,ho2⟩:=back_yes (d:=d) (ls:=ls) (fun l hl=>⟨ckAll_ok hck l hl,H2.out.1.rd.dp l hl⟩) hlen
    have hp2:=printS_back (d:=3) (hk2 1) (by rw [ho2];exact hlen)
    rw [ho2] at hp2
    have hln:=hs2.length
    have hnl:=H2.out.1.rd.len
    obtain ⟨T,hTe⟩:∃ T:ByteArray,⟨(outS ls).toArray⟩=T:=⟨_,rfl⟩
    rw [hTe] at hpr hy2 hp2
    have HPR:Hid (printS d ls=(T,0)∧PYes T ls2∧All2 SameL ls2 ls∧(∀ d2,ckAll (d2+1+1) ls2=0)∧printS 3 ls2=(T,0)∧ls2.length=n):=⟨hpr,hy2,hs2,hk2,hp2,by omega⟩
    clear hpr hy2 hs2 hk2 ho2 hp2 hlen hTe hln hnl hck
    go_wp2_with fail
    have HPA:=print_any d _ A n c ls H2.out.1 H0.out.2.1 (by have:=hn2.out;omega) H2.out.2
    rw [HPR.out.1] at HPA
    refine HPA.mono ?_
    rintro x w3 ⟨rfl,hb3⟩
    have H3:Hid (RdLz d w3 A n ls∧Below w.heap.size w w3∧Env w3):=⟨H2.out.1.ck (ck_below hb3),HB2.out.trans (hb3.mono HB2.out.size),H2.out.2.below hb3⟩
    clear hb3 HPA H2 HB2
    go_wp2_with fail
    refine (HPR.out.2.1 _).mono ?_
    rintro x w4 ⟨nv,rfl,hm,hb4⟩
    obtain ⟨nA,nc,rfl,hm2⟩:=hm.rz
    rw [HPR.out.2.2.2.2.2] at hm2 ⊢
    clear hm
    have hF:FB (w4.alloc (.cells #[.int .i64 0,.int .i64 0] 32)) w4.heap.size 0 0:=FB.new w4 0 0
    have hba:Below w4.heap.size w4 (w4.alloc (.cells #[.int .i64 0,.int .i64 0] 32)):=(Below.refl _ w4).alloc (Nat.le_refl _) _
    have H4:Hid (RdLz d (w4.alloc (.cells #[.int .i64 0,.int .i64 0] 32)) A n ls∧RdLz 3 (w4.alloc (.cells #[.int .i64 0,.int .i64 0] 32)) nA n ls2∧Below w.heap.size w (w4.alloc (.cells #[.int .i64 0,.int .i64 0] 32))∧Env (w4.alloc (.cells #[.int .i64 0,.int .i64 0] 32))∧FB (w4.alloc (.cells #[.int .i64 0,.int .i64 0] 32)) w4.heap.size 0 0):=⟨(H3.out.1.ck (ck_below hb4)).ck (ck_below hba),hm2.ck (ck_below hba),(H3.out.2.1.trans (hb4.mono H3.out.2.1.size)).trans (hba.mono (by have:=H3.out.2.1.size;have:=hb4.size;omega)),(H3.out.2.2.below hb4).below hba,hF⟩
    clear hm2 hb4 hba hF H3
    go_wp2_with fail
    refine (lines_any d false _ A nA n n c nc ls ls2 (by have:=hn2.out;omega) H4.out.1.rd (by
     have:=RdLs.ups 3 (d - 3) H4.out.2.1.rd
     rw [show 3+(d - 3)=d by have:=H0.out.2.2.2.1;omega] at this
     exact this) (all2_flip HPR.out.2.2.1)).mono ?_
    rintro x w5 ⟨rfl,hb5⟩
    have H5:Hid (RdLz 3 w5 nA n ls2∧Below w.heap.size w w5∧Env w5∧FB w5 w4.heap.size 0 0):=⟨H4.out.2.1.ck (ck_below hb5),H4.out.2.2.1.trans (hb5.mono H4.out.2.2.1.size),H4.out.2.2.2.1.below hb5,H4.out.2.2.2.2.below hb5 H4.out.2.2.2.2.lt⟩
    clear hb5 H4
    go_wp2_with fail
    have HPB:=print_any 3 _ nA n nc ls2 H5.out.1 (fun l hl=>tzL_none (ckAll_ok (HPR.out.2.2.2.1 1) l hl) (H5.out.1.rd.dp l hl)) (by have:=hn2.out;omega) H5.out.2.2.1
    rw [HPR.out.2.2.2.2.1] at HPB
    refine HPB.mono ?_
    rintro x w6 ⟨rfl,hb6⟩
    have hF:FB w6 w4.heap.size 0 0:=H5.out.2.2.2.below hb6 H5.out.2.2.2.lt
    have c1:=hF.cells.2.1
    have HB:Hid (Below w.heap.size w w6):=H5.out.2.1.trans (hb6.mono H5.out.2.1.size)
    have HE:Hid (Env w6):=H5.out.2.2.1.below hb6
    clear hb6 HPB hF H5 HPR
    rcases HP.out with ⟨fa,fe,hno,hfa0,hfa1⟩ | ⟨ls5,hyes,hck5,htz5⟩
    · have HN:Hid (PNo s fa fe):=hno
      have d1:(fe != 0)=true:=by simpa using hno.1
      have d2:decide (0≤fa)=true:=by simpa using hfa0
      have d3:decide (fa≤(s.size:Int))=true:=by simpa using hfa1
      clear hno hfa0 hfa1
      go_wp2_with fail
      refine (HN.out.2 _).mono ?_
      rintro x w5 ⟨rfl,hb5⟩
      have hF:FB (w5.alloc (.cells #[.int .i64 fa,.int .i64 fe] 32)) w5.heap.size fa fe:=FB.new w5 fa fe
      have c0:=hF.cells.1
      have c1:=hF.cells.2.1
      have HK:Hid (Below w.heap.size w (w5.alloc (.cells #[.int .i64 fa,.int .i64 fe] 32))):=(HB.out.trans (hb5.mono HB.out.size)).alloc (by have:=HB.out.size;have:=hb5.size;omega) _
      clear hF hb5
      go_wp2
      go_ret
      exact ⟨rfl,HK.out⟩
    · have HY:Hid (PYes s ls5∧ckAll 3 ls5=0):=⟨hyes,hck5⟩
      clear hyes hck5
      go_wp2_with fail
      refine (HY.out.1 _).mono ?_
      rintro x w5 ⟨mv,rfl,hm,hb5⟩
      obtain ⟨mA,mc,rfl,hm2⟩:=hm.rz
      obtain ⟨n5,hn5⟩:∃ n5,ls5.length=n5:=⟨_,rfl⟩
      rw [hn5] at hm2 ⊢
      have HN5:Hid (ls5.length=n5):=hn5
      have HN15:Hid (n5≤1000000000000000):=by show _≤_;have:=htz5;omega
      clear hn5 hm htz5
      have hF:FB (w5.alloc (.cells #[.int .i64 0,.int .i64 0] 32)) w5.heap.size 0 0:=FB.new w5 0 0
      have c1:=hF.cells.2.1
      have hba:Below w5.heap.size w5 (w5.alloc (.cells #[.int .i64 0,.int .i64 0] 32)):=(Below.refl _ w5).alloc (Nat.le_refl _) _
      have HM:Hid (RdLz 3 (w5.alloc (.cells #[.int .i64 0,.int .i64 0] 32)) mA n5 ls5∧Below w.heap.size w (w5.alloc (.cells #[.int .i64 0,.int .i64 0] 32))∧Env (w5.alloc (.cells #[.int .i64 0,.int .i64 0] 32))):=⟨hm2.ck (ck_below hba),(HB.out.trans (hb5.mono HB.out.size)).trans (hba.mono (by have:=HB.out.size;have:=hb5.size;omega)),(HE.out.below hb5).below hba⟩
      clear hm2 hb5 hba hF
      rcases printS_cases (d:=3) ls5 with ⟨c,hc0,hpr,hc2⟩ | ⟨_,hlen,hpr⟩
      · have hc:=hc2 HY.out.2
        subst hc
        clear hc0 hc2
        have HPR:Hid (printS 3 ls5=(⟨#[]⟩,2)):=hpr
        clear hpr
        go_wp2_with fail
        have HPA:=print_any 3 _ mA n5 mc ls5 HM.out.1 (fun l hl=>tzL_none (ckAll_ok HY.out.2 l hl) (HM.out.1.rd.dp l hl)) HN15.out HM.out.2.2
        rw [HPR.out] at HPA
        refine HPA.mono ?_
        rintro x w6 ⟨rfl,hb6⟩
        have HK:Hid (Below w.heap.size w w6):=HM.out.2.1.trans (hb6.mono HM.out.2.1.size)
        clear hb6 HPA
        go_wp2
        go_ret
        exact ⟨rfl,HK.out⟩
      · obtain ⟨ls6,hy6,hs6,hk6,ho6⟩:=back_yes (d:=3) (ls:=ls5) (fun l hl=>⟨ckAll_ok HY.out.2 l hl,HM.out.1.rd.dp l hl⟩) hlen
        have hp6:=printS_back (d:=3) (hk6 1) (by rw [ho6];exact hlen)
        rw [ho6] at hp6
        have hl65:=hs6.length
        obtain ⟨T6,hT6⟩:∃ T6:ByteArray,⟨(outS ls5).toArray⟩=T6:=⟨_,rfl⟩
        rw [hT6] at hpr hy6 hp6
        have HPR:Hid (printS 3 ls5=(T6,0)∧PYes T6 ls6∧All2 SameL ls6 ls5∧(∀ d2,ckAll (d2+1+1) ls6=0)∧printS 3 ls6=(T6,0)∧ls6.length=n5):=⟨hpr,hy6,hs6,hk6,hp6,by rw [hl65];exact HN5.out⟩
        clear hpr hy6 hs6 hk6 ho6 hp6 hlen hT6 hl65
        go_wp2_with fail
        have HPA:=print_any 3 _ mA n5 mc ls5 HM.out.1 (fun l hl=>tzL_none (ckAll_ok HY.out.2 l hl) (HM.out.1.rd.dp l hl)) HN15.out HM.out.2.2
        rw [HPR.out.1] at HPA
        refine HPA.mono ?_
        rintro x w6 ⟨rfl,hb6⟩
        have H6:Hid (RdLz 3 w6 mA n5 ls5∧Below w.heap.size w w6∧Env w6):=⟨HM.out.1.ck (ck_below hb6),HM.out.2.1.trans (hb6.mono HM.out.2.1.size),HM.out.2.2.below hb6⟩
        clear hb6 HPA HM c1
        go_wp2_with fail
        refine (HPR.out.2.1 _).mono ?_
        rintro x w7 ⟨nv,rfl,hm,hb7⟩
        obtain ⟨nA,nc,rfl,hm2⟩:=hm.rz
        rw [HPR.out.2.2.2.2.2] at hm2 ⊢
        clear hm
        have hF:FB (w7.alloc (.cells #[.int .i64 0,.int .i64 0] 32)) w7.heap.size 0 0:=FB.new w7 0 0
        have hba:Below w7.heap.size w7 (w7.alloc (.cells #[.int .i64 0,.int .i64 0] 32)):=(Below.refl _ w7).alloc (Nat.le_refl _) _
        have H7:Hid (RdLz 3 (w7.alloc (.cells #[.int .i64 0,.int .i64 0] 32)) mA n5 ls5∧RdLz 3 (w7.alloc (.cells #[.int .i64 0,.int .i64 0] 32)) nA n5 ls6∧Below w.heap.size w (w7.alloc (.cells #[.int .i64 0,.int .i64 0] 32))∧Env (w7.alloc (.cells #[.int .i64 0,.int .i64 0] 32))∧FB (w7.alloc (.cells #[.int .i64 0,.int .i64 0] 32)) w7.heap.size 0 0):=⟨(H6.out.1.ck (ck_below hb7)).ck (ck_below hba),hm2.ck (ck_below hba),(H6.out.2.1.trans (hb7.mono H6.out.2.1.size)).trans (hba.mono (by have:=H6.out.2.1.size;have:=hb7.size;omega)),(H6.out.2.2.below hb7).below hba,hF⟩
        clear hm2 hb7 hba hF H6
        go_wp2_with fail
        refine (lines_any 3 false _ mA nA n5 n5 mc nc ls5 ls6 HN15.out H7.out.1.rd H7.out.2.1.rd (all2_flip HPR.out.2.2.1)).mono ?_
        rintro x w8 ⟨rfl,hb8⟩
        have H8:Hid (RdLz 3 w8 nA n5 ls6∧Below w.heap.size w w8∧Env w8∧FB w8 w7.heap.size 0 0):=⟨H7.out.2.1.ck (ck_below hb8),H7.out.2.2.1.trans (hb8.mono H7.out.2.2.1.size),H7.out.2.2.2.1.below hb8,H7.out.2.2.2.2.below hb8 H7.out.2.2.2.2.lt⟩
        clear hb8 H7
        go_wp2_with fail
        have HPB:=print_any 3 _ nA n5 nc ls6 H8.out.1 (fun l hl=>tzL_none (ckAll_ok (HPR.out.2.2.2.1 1) l hl) (H8.out.1.rd.dp l hl)) HN15.out H8.out.2.2.1
        rw [HPR.out.2.2.2.2.1] at HPB
        refine HPB.mono ?_
        rintro x w9 ⟨rfl,hb9⟩
        have hF:FB w9 w7.heap.size 0 0:=H8.out.2.2.2.below hb9 H8.out.2.2.2.lt
        have c1:=hF.cells.2.1
        have HK:Hid (Below w.heap.size w w9):=H8.out.2.1.trans (hb9.mono H8.out.2.1.size)
        clear hb9 HPB hF H8
        go_wp2
        go_ret
        exact ⟨rfl,HK.out⟩
end Go.Proofs
