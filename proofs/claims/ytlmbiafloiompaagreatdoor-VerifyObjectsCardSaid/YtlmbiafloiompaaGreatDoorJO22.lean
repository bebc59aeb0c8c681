/-
 The document's step (layer 11): instructions 2,19,23,21,22,25,24,16. Conditions: an object that may be,an instruction of it,no parts to come,another way where it is asked.
-/
import Derived.Test.YtlmbiafloiompaaGreatDoorJO12
import Derived.Shelf.Abstract
set_option linter.unusedVariables false
set_option linter.unusedSimpArgs false
namespace Go.Proofs.YtlmbiafloiompaaGreatDoor
open Go Go.RowKit
set_option maxRecDepth 100000
set_option maxHeartbeats 8000000 in
theorem rstep_FC {o:Ob} (ho:ObK o) {op a b c d:Int} (hi:InsK o (op,a,b,c,d)) (hK:op=2 ∨ op=19 ∨ op=23 ∨ op=21 ∨ op=22 ∨ op=25 ∨ op=24 ∨ op=16) (own:Int) {s:VSt} (hs:StOk s) (hl:s.left=0) {al:Bool} (ha:s.alt=al) (hal:al=(decide (op=21) || decide (op=22))) {va vf vp vc:Value} (w:World) (hv:ObAt w va vf vp vc o) :
  Calls Tryz.prog 32 #[.agg #[va,vf,vp,vc],.int .i64 own,.agg #[.int .i64 op,.int .i64 a,.int .i64 b,.int .i64 c,.int .i64 d],.agg (stA s)] w (StepD o own (op,a,b,c,d) s w):=by
 obtain⟨A1,c1,rfl⟩:=CellsAt.form hv.atoms
 obtain⟨A2,cf,rfl⟩:=CellsAt.form hv.funs
 obtain⟨A3,cp,rfl⟩:=CellsAt.form hv.preds
 obtain⟨A4,c4,rfl⟩:=CellsAt.form hv.code
 have HV:=hD hv
 have HSs:=hD hs
 have HPA:=hD (fun W h=>zk5 (o:=o) (op:=op) (a:=a) (b:=b) (c:=c) (d:=d) (fun h=>hi.fa h) W (va:=.slice A1 o.atoms.length c1) (vf:=.slice A2 o.funs.length cf) (vp:=.slice A3 o.preds.length cp) (vc:=.slice A4 o.code.length c4) h)
 have HS0:=hD (SdW.start w #[.slice A1 o.atoms.length c1,.slice A2 o.funs.length cf,.slice A3 o.preds.length cp,.slice A4 o.code.length c4] #[.int .i64 op,.int .i64 a,.int .i64 b,.int .i64 c,.int .i64 d] (stA s) zeroA)
 have HZE:=hD zE
 have HZS:Hid (zeroA.size=21):=hD rfl
 generalize zeroA=O at HS0 HZE HZS
 have HRR:=hD (zb5 (o:=o) (ar:=arityP o own) (op:=op) (a:=a) (b:=b) (c:=c) (d:=d) (s:=s) (ha.trans hal) (by rcases hK with rfl | rfl | rfl | rfl | rfl | rfl | rfl | rfl <;> rfl) hl)
 clear hv
 go_enter Tryz.func32,Tryz.ntmps32
 go_upto_region 1 with(fail)
 rw [← HZE.out]
 obtain⟨w1,hw1⟩:∃ w1,(((w.alloc (.cells #[.slice A1 o.atoms.length c1,.slice A2 o.funs.length cf,.slice A3 o.preds.length cp,.slice A4 o.code.length c4] 27)).alloc (.cells #[.int .i64 op,.int .i64 a,.int .i64 b,.int .i64 c,.int .i64 d] 54)).alloc (.cells (stA s) 95)).alloc (.cells O 95)=w1:=⟨_,rfl⟩
 obtain⟨g,hg⟩:∃ g,w.heap.size=g:=⟨_,rfl⟩
 rw [hw1] at HS0 ⊢
 rw [hg] at HS0 ⊢
 clear hw1 HZE hg
 obtain⟨i0,i1,i2,-⟩:=HS0.out.rl
 go_quiet (fail)
 have HS:=hD (HS0.out.drewN nq)
 obtain⟨w2,hw2⟩:∃ w2,w1.drewN nq=w2:=⟨_,rfl⟩
 rw [hw2] at HS ⊢
 clear hw2 HS0 i0 i1 i2
 obtain⟨i0,i1,i2,i3,i4,q0,q1,q2,q3⟩:=HS.out.rl
 obtain⟨x0,x1,x18,x19,x20⟩:=HS.out.xl HSs.out
 rw [hl] at x18
 rw [ha] at x19
 obtain rfl | rfl | rfl | rfl | rfl | rfl | rfl | rfl:=hK
 ·obtain rfl:al=false:=hal.trans (by decide)
  clear hal
  as_aux_lemma=>
   go_upto_region 21 with(fail)
   obtain⟨bk,rfl,hbk⟩:=nat16 (a:=b) (hi.xb (by simp))
   obtain⟨hr0,hr1⟩:=reg32 (a:=a) (hi.rg (by simp))
   have HSB:=hD (fun w=>zx2 s.x bk hs.x hbk w)
   have HT:=hD (fun w=>zz5 hs a hr0 hr1 w)
   have HR0:=HRt (q:=(s.x.testBit bk && termV s a)) HRR rfl
   generalize s.x.testBit bk=q1 at HSB HR0
   generalize termV s a=bq at HT HR0
   cases q1 with
   | false=>
    have HR:=HRt (q:=false) HR0 rfl
    go_upto_region 68 with(first | (go_at_call 67;refine(HSB.out _).mono ?_;rintro e1 w5 ⟨rfl,rfl⟩))
    obtain⟨C,HC,HSZ,H1⟩:=genS HSs
    rw [HC.out] at HS
    go_upto_region 71 with(first | (go_at_call 70;refine(HPA.out _ (HV.out.below HS.out.below)).mono ?_;rintro e1 w5 ⟨rfl,hb5⟩;have HS:=upS HS hb5;clear hb5;obtain⟨i0,i1,i2,i3,i4,q0,q1,q2,q3⟩:=HS.out.rl))
    go_wp2_with (first | (refine ldS HS HSZ rfl (.tmp 7) rfl rfl ?_) | (refine stS HS HZS HSZ H1 rfl (.tmp 8) (.tmp 296) rfl rfl rfl ?_))
    exact finN HS HZS HSZ HSs HC HR rfl rfl rfl rfl
   | true=>
    have HR:=HRt (q:=bq) HR0 (by rw [Bool.true_and])
    have HSZ:=hD (zh HSs.out)
    go_upto_region 68 with(first | (go_at_call 67;refine(HSB.out _).mono ?_;rintro e1 w5 ⟨rfl,rfl⟩) | (refine ldSW HS HSZ (by kernel_rfl) (.tmp 7) rfl rfl ?_) | (go_at_call 65;refine(HT.out _).mono ?_;rintro e1 w5 ⟨rfl,hb5⟩;have HS:=upS HS hb5;clear hb5;obtain⟨i0,i1,i2,i3,i4,q0,q1,q2,q3⟩:=HS.out.rl))
    clear HSZ
    obtain⟨C,HC,HSZ,H1⟩:=genS HSs
    rw [HC.out] at HS
    go_upto_region 71 with(first | (go_at_call 70;refine(HPA.out _ (HV.out.below HS.out.below)).mono ?_;rintro e1 w5 ⟨rfl,hb5⟩;have HS:=upS HS hb5;clear hb5;obtain⟨i0,i1,i2,i3,i4,q0,q1,q2,q3⟩:=HS.out.rl))
    go_wp2_with (first | (refine ldS HS HSZ rfl (.tmp 7) rfl rfl ?_) | (refine stS HS HZS HSZ H1 rfl (.tmp 8) (.tmp 296) rfl rfl rfl ?_))
    exact finD HS HZS HSZ HSs HC HR rfl rfl rfl rfl fun _=>rfl
 ·obtain rfl:al=false:=hal.trans (by decide)
  clear hal
  as_aux_lemma=>
   go_upto_region 52 with(fail)
   have HR:=HRt (q:=decide (s.env<0)) HRR rfl
   generalize s.env=en_ at HR x1
   go_upto_region 68 with(fail)
   obtain⟨C,HC,HSZ,H1⟩:=genS HSs
   rw [HC.out] at HS
   go_upto_region 71 with(first | (go_at_call 70;refine(HPA.out _ (HV.out.below HS.out.below)).mono ?_;rintro e1 w5 ⟨rfl,hb5⟩;have HS:=upS HS hb5;clear hb5;obtain⟨i0,i1,i2,i3,i4,q0,q1,q2,q3⟩:=HS.out.rl))
   go_wp2_with (first | (refine ldS HS HSZ rfl (.tmp 7) rfl rfl ?_) | (refine stS HS HZS HSZ H1 rfl (.tmp 8) (.tmp 296) rfl rfl rfl ?_))
   exact finD HS HZS HSZ HSs HC HR rfl rfl rfl rfl fun _=>rfl
 ·obtain rfl:al=false:=hal.trans (by decide)
  clear hal
  as_aux_lemma=>
   go_upto_region 59 with(fail)
   have HR:=HRt (q:=s.neck) HRR rfl
   generalize s.neck=nk at HR x20
   go_upto_region 68 with(fail)
   obtain⟨C,HC,HSZ,H1⟩:=genS HSs
   rw [HC.out] at HS
   go_upto_region 71 with(first | (go_at_call 70;refine(HPA.out _ (HV.out.below HS.out.below)).mono ?_;rintro e1 w5 ⟨rfl,hb5⟩;have HS:=upS HS hb5;clear hb5;obtain⟨i0,i1,i2,i3,i4,q0,q1,q2,q3⟩:=HS.out.rl))
   go_wp2_with (first | (refine ldS HS HSZ rfl (.tmp 7) rfl rfl ?_) | (refine stS HS HZS HSZ H1 rfl (.tmp 8) (.tmp 296) rfl rfl rfl ?_))
   exact finD HS HZS HSZ HSs HC HR rfl rfl rfl rfl fun _=>rfl
 ·obtain rfl:al=true:=hal.trans (by decide)
  clear hal
  as_aux_lemma=>
   go_upto_region 57 with(fail)
   have HR:=HRt (q:=true) HRR rfl
   go_upto_region 57 with(fail)
   have z19:=HS.out.st.frozen (19)
   have HS0:=HS
   have HS:=hD (HS.out.set (19) (.bool false))
   rw [← zm5 HSs.out false] at HS
   have HSs:Hid (StOk { s with alt:=false }):=hD (⟨HSs.out.y,HSs.out.x⟩)
   go_upto_region 68 with(fail)
   obtain⟨C,HC,HSZ,H1⟩:=genS HSs
   rw [HC.out] at HS
   go_upto_region 71 with(first | (go_at_call 70;refine(HPA.out _ (HV.out.below HS.out.below)).mono ?_;rintro e1 w5 ⟨rfl,hb5⟩;have HS:=upS HS hb5;clear hb5;obtain⟨i0,i1,i2,i3,i4,q0,q1,q2,q3⟩:=HS.out.rl))
   go_wp2_with (first | (refine ldS HS HSZ rfl (.tmp 7) rfl rfl ?_) | (refine stS HS HZS HSZ H1 rfl (.tmp 8) (.tmp 296) rfl rfl rfl ?_))
   exact finD HS HZS HSZ HSs HC HR rfl rfl rfl rfl fun _=>rfl
 ·obtain rfl:al=true:=hal.trans (by decide)
  clear hal
  as_aux_lemma=>
   go_upto_region 57 with(fail)
   have HR:=HRt (q:=true) HRR rfl
   go_upto_region 57 with(fail)
   have z19:=HS.out.st.frozen (19)
   have HS0:=HS
   have HS:=hD (HS.out.set (19) (.bool false))
   rw [← zm5 HSs.out false] at HS
   have HSs:Hid (StOk { s with alt:=false }):=hD (⟨HSs.out.y,HSs.out.x⟩)
   go_upto_region 68 with(fail)
   obtain⟨C,HC,HSZ,H1⟩:=genS HSs
   rw [HC.out] at HS
   go_upto_region 71 with(first | (go_at_call 70;refine(HPA.out _ (HV.out.below HS.out.below)).mono ?_;rintro e1 w5 ⟨rfl,hb5⟩;have HS:=upS HS hb5;clear hb5;obtain⟨i0,i1,i2,i3,i4,q0,q1,q2,q3⟩:=HS.out.rl))
   go_wp2_with (first | (refine ldS HS HSZ rfl (.tmp 7) rfl rfl ?_) | (refine stS HS HZS HSZ H1 rfl (.tmp 8) (.tmp 296) rfl rfl rfl ?_))
   exact finD HS HZS HSZ HSs HC HR rfl rfl rfl rfl fun _=>rfl
 ·obtain rfl:al=false:=hal.trans (by decide)
  clear hal
  as_aux_lemma=>
   go_upto_region 65 with(fail)
   obtain⟨ak,rfl,hak⟩:=nat16 (a:=a) (hi.ya (by simp))
   have xy:=(HS.out.st.cell (2+ak)).trans (stA_y hs ak hak)
   have HR0:=HRt (q:=(decide ((ak:Int)<s.env) && decide (yAt s ak=2))) HRR rfl
   generalize s.env=en_ at HR0 x1
   generalize yAt s (ak:Int)=y at HR0 xy
   by_cases h1:(ak:Int)<en_
   ·by_cases h2:y=2
    ·have HR:=HRt (q:=true) HR0 (by rw [decide_eq_true h1,decide_eq_true h2];rfl)
     subst h2
     go_upto_region 68 with(fail)
     obtain⟨C,HC,HSZ,H1⟩:=genS HSs
     rw [HC.out] at HS
     go_upto_region 71 with(first | (go_at_call 70;refine(HPA.out _ (HV.out.below HS.out.below)).mono ?_;rintro e1 w5 ⟨rfl,hb5⟩;have HS:=upS HS hb5;clear hb5;obtain⟨i0,i1,i2,i3,i4,q0,q1,q2,q3⟩:=HS.out.rl))
     go_wp2_with (first | (refine ldS HS HSZ rfl (.tmp 7) rfl rfl ?_) | (refine stS HS HZS HSZ H1 rfl (.tmp 8) (.tmp 296) rfl rfl rfl ?_))
     exact finD HS HZS HSZ HSs HC HR rfl rfl rfl rfl fun _=>rfl
    ·have HR:=HRt (q:=false) HR0 (by rw [decide_eq_false h2,Bool.and_false])
     have h3:(y == 2)=false:=beq_eq_false_iff_ne.2 h2
     go_upto_region 68 with(fail)
     obtain⟨C,HC,HSZ,H1⟩:=genS HSs
     rw [HC.out] at HS
     go_upto_region 71 with(first | (go_at_call 70;refine(HPA.out _ (HV.out.below HS.out.below)).mono ?_;rintro e1 w5 ⟨rfl,hb5⟩;have HS:=upS HS hb5;clear hb5;obtain⟨i0,i1,i2,i3,i4,q0,q1,q2,q3⟩:=HS.out.rl))
     go_wp2_with (first | (refine ldS HS HSZ rfl (.tmp 7) rfl rfl ?_) | (refine stS HS HZS HSZ H1 rfl (.tmp 8) (.tmp 296) rfl rfl rfl ?_))
     exact finN HS HZS HSZ HSs HC HR rfl rfl rfl rfl
   ·have HR:=HRt (q:=false) HR0 (by rw [decide_eq_false h1,Bool.false_and])
    go_upto_region 68 with(fail)
    obtain⟨C,HC,HSZ,H1⟩:=genS HSs
    rw [HC.out] at HS
    go_upto_region 71 with(first | (go_at_call 70;refine(HPA.out _ (HV.out.below HS.out.below)).mono ?_;rintro e1 w5 ⟨rfl,hb5⟩;have HS:=upS HS hb5;clear hb5;obtain⟨i0,i1,i2,i3,i4,q0,q1,q2,q3⟩:=HS.out.rl))
    go_wp2_with (first | (refine ldS HS HSZ rfl (.tmp 7) rfl rfl ?_) | (refine stS HS HZS HSZ H1 rfl (.tmp 8) (.tmp 296) rfl rfl rfl ?_))
    exact finN HS HZS HSZ HSs HC HR rfl rfl rfl rfl
 ·obtain rfl:al=false:=hal.trans (by decide)
  clear hal
  as_aux_lemma=>
   go_upto_region 61 with(fail)
   obtain⟨ak,rfl,hak⟩:=nat16 (a:=a) (hi.ya (by simp))
   have xy:=(HS.out.st.cell (2+ak)).trans (stA_y hs ak hak)
   have HT:=hD (fun w=>zw6 hs (16+(ak:Int)) (by omega) (by omega) w)
   have HR0:=HRt (q:=(s.neck && mayV s (16+(ak:Int)))) HRR rfl
   generalize mayV s (16+(ak:Int))=q at HT HR0
   cases q with
   | false=>
    have HR:=HRt (q:=false) HR0 (by rw [Bool.and_false])
    have HSZ:=hD (zh HSs.out)
    go_upto_region 62 with(first | (refine ldS HS HSZ rfl (.tmp 7) rfl rfl ?_) | (go_at_call 64;refine(HT.out _).mono ?_;rintro e1 w5 ⟨rfl,hb5⟩;have HS:=upS HS hb5;clear hb5;obtain⟨i0,i1,i2,i3,i4,q0,q1,q2,q3⟩:=HS.out.rl))
    clear HSZ
    go_upto_region 68 with(fail)
    obtain⟨C,HC,HSZ,H1⟩:=genS HSs
    rw [HC.out] at HS
    go_upto_region 71 with(first | (go_at_call 70;refine(HPA.out _ (HV.out.below HS.out.below)).mono ?_;rintro e1 w5 ⟨rfl,hb5⟩;have HS:=upS HS hb5;clear hb5;obtain⟨i0,i1,i2,i3,i4,q0,q1,q2,q3⟩:=HS.out.rl))
    go_wp2_with (first | (refine ldS HS HSZ rfl (.tmp 7) rfl rfl ?_) | (refine stS HS HZS HSZ H1 rfl (.tmp 8) (.tmp 296) rfl rfl rfl ?_))
    exact finN HS HZS HSZ HSs HC HR rfl rfl rfl rfl
   | true=>
    obtain⟨nk,hnk⟩:∃ nk,s.neck=nk:=⟨_,rfl⟩
    rw [hnk] at HR0
    have HNK:=hD hnk
    clear hnk
    cases nk with
    | false=>
     have HR:=HRt (q:=false) HR0 rfl
     have HSZ:=hD (zh HSs.out)
     have H20:Hid ((stA s)[20]?=some (.bool false)):=hD (by rw [← HNK.out];exact zy2 hs)
     go_upto_region 62 with(first | (refine ldS HS HSZ rfl (.tmp 7) rfl rfl ?_) | (go_at_call 64;refine(HT.out _).mono ?_;rintro e1 w5 ⟨rfl,hb5⟩;have HS:=upS HS hb5;clear hb5;obtain⟨i0,i1,i2,i3,i4,q0,q1,q2,q3⟩:=HS.out.rl;have x20:=(HS.out.st.cell 20).trans H20.out))
     clear HSZ
     go_upto_region 68 with(fail)
     obtain⟨C,HC,HSZ,H1⟩:=genS HSs
     rw [HC.out] at HS
     go_upto_region 71 with(first | (go_at_call 70;refine(HPA.out _ (HV.out.below HS.out.below)).mono ?_;rintro e1 w5 ⟨rfl,hb5⟩;have HS:=upS HS hb5;clear hb5;obtain⟨i0,i1,i2,i3,i4,q0,q1,q2,q3⟩:=HS.out.rl))
     go_wp2_with (first | (refine ldS HS HSZ rfl (.tmp 7) rfl rfl ?_) | (refine stS HS HZS HSZ H1 rfl (.tmp 8) (.tmp 296) rfl rfl rfl ?_))
     exact finN HS HZS HSZ HSs HC HR rfl rfl rfl rfl
    | true=>
     have HR:=HRt (q:=true) HR0 rfl
     have HSZ:=hD (zh HSs.out)
     have H20:Hid ((stA s)[20]?=some (.bool true)):=hD (by rw [← HNK.out];exact zy2 hs)
     go_upto_region 62 with(first | (refine ldS HS HSZ rfl (.tmp 7) rfl rfl ?_) | (go_at_call 64;refine(HT.out _).mono ?_;rintro e1 w5 ⟨rfl,hb5⟩;have HS:=upS HS hb5;clear hb5;obtain⟨i0,i1,i2,i3,i4,q0,q1,q2,q3⟩:=HS.out.rl;have x20:=(HS.out.st.cell 20).trans H20.out))
     go_upto_region 63 with(fail)
     have xy:=(HS.out.st.cell (2+ak)).trans (stA_y hs ak hak)
     have i0':(0:Int)≤(ak:Int):=by omega
     have i1':(ak:Int)<16:=by omega
     have zy:=HS.out.st.frozen (2+ak)
     have HS0:=HS
     have HS:=hD (HS.out.set (2+ak) (.int .i64 2))
     rw [← za9 HSs.out ak hak 2] at HS
     have HSs:Hid (StOk { s with y:=s.y.set ak 2 }):=hD (⟨by show(s.y.set ak 2).length=16;rw [List.length_set];exact HSs.out.y,HSs.out.x⟩)
     go_upto_region 68 with(fail)
     obtain⟨C,HC,HSZ,H1⟩:=genS HSs
     rw [HC.out] at HS
     go_upto_region 71 with(first | (go_at_call 70;refine(HPA.out _ (HV.out.below HS.out.below)).mono ?_;rintro e1 w5 ⟨rfl,hb5⟩;have HS:=upS HS hb5;clear hb5;obtain⟨i0,i1,i2,i3,i4,q0,q1,q2,q3⟩:=HS.out.rl))
     go_wp2_with (first | (refine ldS HS HSZ rfl (.tmp 7) rfl rfl ?_) | (refine stS HS HZS HSZ H1 rfl (.tmp 8) (.tmp 296) rfl rfl rfl ?_))
     exact finD HS HZS HSZ HSs HC HR rfl rfl rfl rfl fun _=>rfl
 ·obtain rfl:al=false:=hal.trans (by decide)
  clear hal
  as_aux_lemma=>
   go_upto_region 44 with(fail)
   have HR:=HRt (q:=decide (0≤s.env)) HRR rfl
   obtain⟨Z0,hZ0⟩:∃ Z0,zero16D=Z0:=⟨_,rfl⟩
   have HZ0E:Hid (Z0=#[.int .i64 0,.int .i64 0,.int .i64 0,.int .i64 0,.int .i64 0,.int .i64 0,.int .i64 0,.int .i64 0,.int .i64 0,.int .i64 0,.int .i64 0,.int .i64 0,.int .i64 0,.int .i64 0,.int .i64 0,.int .i64 0]):=hD hZ0.symm
   have HZ0I:Hid ((Tryz.prog.info? 56).map (·.size)=some Z0.size):=hD (by rw [← hZ0];exact zy15)
   have HZ01:Hid (Z0.all (·.oneCell')=true):=hD (by rw [← hZ0];exact zo17)
   have HZ0N:Hid (Z0.size=16):=hD (by rw [← hZ0];rfl)
   have HPZ:Hid (putL (stA { s with env:=-1 }) 2 Z0.toList=stA { { s with env:=-1 } with y:=yZero }):=hD (by rw [← hZ0];exact put_zeroD (s:={ s with env:=-1 }) ⟨HSs.out.y,HSs.out.x⟩)
   clear hZ0
   go_upto_region 45 with(fail)
   have z1:=HS.out.st.frozen 1
   have HS:=hD (HS.out.set 1 (.int .i64 (-1)))
   rw [← zn5 s (-1)] at HS
   have HSs:Hid (StOk { s with env:=-1 }):=hD ⟨HSs.out.y,HSs.out.x⟩
   have HSZ:=hD (zh HSs.out)
   go_upto_region 68 with(first | (refine wpList_store_mid rfl 56 (.tmp 192) (.tmp 190) rfl (g+1+1) 2 Z0 rfl (by rw [HZ0E.out];rfl) (zr HS.out.st (by rw [HZ0N.out,HSZ.out];decide)) HZ0I.out HZ01.out ?_))
   have HS:=hD (HS.out.cells 2 Z0.toList)
   rw [HPZ.out] at HS
   have HSs:Hid (StOk { { s with env:=-1 } with y:=yZero }):=hD ⟨rfl,HSs.out.x⟩
   clear HSZ
   obtain⟨i0,i1,i2,i3,i4,q0,q1,q2,q3⟩:=HS.out.rl
   generalize s.env=en_ at HR x1
   generalize hwz:World.setCells _ (g+1+1) 2 Z0.toList=wz at HS i0 i1 i2 i3 i4 q0 q1 q2 q3 ⊢
   clear hwz x0 x18 x19 x20
   obtain⟨C,HC,HSZ,H1⟩:=genS HSs
   rw [HC.out] at HS
   go_upto_region 71 with(first | (go_at_call 70;refine(HPA.out _ (HV.out.below HS.out.below)).mono ?_;rintro e1 w5 ⟨rfl,hb5⟩;have HS:=upS HS hb5;clear hb5;obtain⟨i0,i1,i2,i3,i4,q0,q1,q2,q3⟩:=HS.out.rl))
   go_wp2_with (first | (refine ldS HS HSZ rfl (.tmp 7) rfl rfl ?_) | (refine stS HS HZS HSZ H1 rfl (.tmp 8) (.tmp 296) rfl rfl rfl ?_))
   exact finD HS HZS HSZ HSs HC HR rfl rfl rfl rfl fun _=>rfl
end Go.Proofs.YtlmbiafloiompaaGreatDoor
