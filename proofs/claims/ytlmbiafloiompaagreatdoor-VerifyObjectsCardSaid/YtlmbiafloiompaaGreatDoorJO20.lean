/-
 The document's step (layer 11): instructions 0,3,4,12,15,26. Conditions: an object that may be,an instruction of it,no parts to come,another way where it is asked.
-/
import Derived.Test.YtlmbiafloiompaaGreatDoorJO12
import Derived.Shelf.Abstract
set_option linter.unusedVariables false
set_option linter.unusedSimpArgs false
namespace Go.Proofs.YtlmbiafloiompaaGreatDoor
open Go Go.RowKit
set_option maxRecDepth 100000
set_option maxHeartbeats 8000000 in
theorem rstep_FA {o:Ob} (ho:ObK o) {op a b c d:Int} (hi:InsK o (op,a,b,c,d)) (hK:op=0 ∨ op=3 ∨ op=4 ∨ op=12 ∨ op=15 ∨ op=26) (own:Int) {s:VSt} (hs:StOk s) (hl:s.left=0) {al:Bool} (ha:s.alt=al) (hal:al=(decide (op=21) || decide (op=22))) {va vf vp vc:Value} (w:World) (hv:ObAt w va vf vp vc o) :
  Calls Tryz.prog 32 #[.agg #[va,vf,vp,vc],.int .i64 own,.agg #[.int .i64 op,.int .i64 a,.int .i64 b,.int .i64 c,.int .i64 d],.agg (stA s)] w (StepD o own (op,a,b,c,d) s w):=by
 obtain⟨A1,c1,rfl⟩:=CellsAt.form hv.atoms
 obtain⟨A2,cf,rfl⟩:=CellsAt.form hv.funs
 obtain⟨A3,cp,rfl⟩:=CellsAt.form hv.preds
 obtain⟨A4,c4,rfl⟩:=CellsAt.form hv.code
 have HV:=hD hv
 have HSs:=hD hs
 have HPA:=hD (fun W h=>zk5 (o:=o) (op:=op) (a:=a) (b:=b) (c:=c) (d:=d) (fun h=>hi.fa h) W (va:=.slice A1 o.atoms.length c1) (vf:=.slice A2 o.funs.length cf) (vp:=.slice A3 o.preds.length cp) (vc:=.slice A4 o.code.length c4) h)
 have HS0:=hD (SdW.start w #[.slice A1 o.atoms.length c1,.slice A2 o.funs.length cf,.slice A3 o.preds.length cp,.slice A4 o.code.length c4] #[.int .i64 op,.int .i64 a,.int .i64 b,.int .i64 c,.int .i64 d] (stA s) zeroA)
 have HZE:=hD zE
 have HZS:Hid (zeroA.size=21):=hD rfl
 generalize zeroA=O at HS0 HZE HZS
 have HRR:=hD (zb5 (o:=o) (ar:=arityP o own) (op:=op) (a:=a) (b:=b) (c:=c) (d:=d) (s:=s) (ha.trans hal) (by rcases hK with rfl | rfl | rfl | rfl | rfl | rfl <;> rfl) hl)
 clear hv
 go_enter Tryz.func32,Tryz.ntmps32
 go_upto_region 1 with(fail)
 rw [← HZE.out]
 obtain⟨w1,hw1⟩:∃ w1,(((w.alloc (.cells #[.slice A1 o.atoms.length c1,.slice A2 o.funs.length cf,.slice A3 o.preds.length cp,.slice A4 o.code.length c4] 27)).alloc (.cells #[.int .i64 op,.int .i64 a,.int .i64 b,.int .i64 c,.int .i64 d] 54)).alloc (.cells (stA s) 95)).alloc (.cells O 95)=w1:=⟨_,rfl⟩
 obtain⟨g,hg⟩:∃ g,w.heap.size=g:=⟨_,rfl⟩
 rw [hw1] at HS0 ⊢
 rw [hg] at HS0 ⊢
 clear hw1 HZE hg
 obtain⟨i0,i1,i2,-⟩:=HS0.out.rl
 go_quiet (fail)
 have HS:=hD (HS0.out.drewN nq)
 obtain⟨w2,hw2⟩:∃ w2,w1.drewN nq=w2:=⟨_,rfl⟩
 rw [hw2] at HS ⊢
 clear hw2 HS0 i0 i1 i2
 obtain⟨i0,i1,i2,i3,i4,q0,q1,q2,q3⟩:=HS.out.rl
 obtain⟨x0,x1,x18,x19,x20⟩:=HS.out.xl HSs.out
 rw [hl] at x18
 rw [ha] at x19
 obtain rfl | rfl | rfl | rfl | rfl | rfl:=hK
 ·obtain rfl:al=false:=hal.trans (by decide)
  clear hal
  as_aux_lemma=>
   go_upto_region 68 with(fail)
   have HR:=HRt (q:=true) HRR rfl
   obtain⟨C,HC,HSZ,H1⟩:=genS HSs
   rw [HC.out] at HS
   go_upto_region 71 with(first | (go_at_call 70;refine(HPA.out _ (HV.out.below HS.out.below)).mono ?_;rintro e1 w5 ⟨rfl,hb5⟩;have HS:=upS HS hb5;clear hb5;obtain⟨i0,i1,i2,i3,i4,q0,q1,q2,q3⟩:=HS.out.rl))
   go_wp2_with (first | (refine ldS HS HSZ rfl (.tmp 7) rfl rfl ?_) | (refine stS HS HZS HSZ H1 rfl (.tmp 8) (.tmp 296) rfl rfl rfl ?_))
   exact finD HS HZS HSZ HSs HC HR rfl rfl rfl rfl fun _=>rfl
 ·obtain rfl:al=false:=hal.trans (by decide)
  clear hal
  as_aux_lemma=>
   go_upto_region 24 with(fail)
   obtain⟨bk,rfl,hbk⟩:=nat16 (a:=b) (hi.xb (by simp))
   have HSB:=hD (fun w=>zx2 s.x bk hs.x (by omega) w)
   have HR:=HRt (q:=s.x.testBit bk) HRR rfl
   generalize s.x.testBit bk=q at HSB HR
   go_upto_region 68 with(first | (go_at_call 67;refine(HSB.out _).mono ?_;rintro e1 w5 ⟨rfl,rfl⟩))
   obtain⟨C,HC,HSZ,H1⟩:=genS HSs
   rw [HC.out] at HS
   go_upto_region 71 with(first | (go_at_call 70;refine(HPA.out _ (HV.out.below HS.out.below)).mono ?_;rintro e1 w5 ⟨rfl,hb5⟩;have HS:=upS HS hb5;clear hb5;obtain⟨i0,i1,i2,i3,i4,q0,q1,q2,q3⟩:=HS.out.rl))
   go_wp2_with (first | (refine ldS HS HSZ rfl (.tmp 7) rfl rfl ?_) | (refine stS HS HZS HSZ H1 rfl (.tmp 8) (.tmp 296) rfl rfl rfl ?_))
   exact finD HS HZS HSZ HSs HC HR rfl rfl rfl rfl fun _=>rfl
 ·obtain rfl:al=false:=hal.trans (by decide)
  clear hal
  as_aux_lemma=>
   go_upto_region 24 with(fail)
   obtain⟨bk,rfl,hbk⟩:=nat16 (a:=b) (hi.xb (by simp))
   obtain⟨hf0,hf1⟩:=hi.fa (by simp)
   simp only at hf0 hf1
   have har:=zi11 ho a hf0 hf1
   have HPF:Hid (partsV o 4 a=arityF o a):=hD (if_pos (by simp))
   rw [HPF.out] at HPA
   have HSB:=hD (fun w=>zx2 s.x bk hs.x (by omega) w)
   have HR:=HRt (q:=s.x.testBit bk) HRR rfl
   generalize s.x.testBit bk=q at HSB HR
   generalize hav:arityF o a=av at HPA har
   have HAV:=hD hav
   clear hav
   go_upto_region 68 with(first | (go_at_call 67;refine(HSB.out _).mono ?_;rintro e1 w5 ⟨rfl,rfl⟩))
   go_upto_region 70 with(first | (go_at_call 70;refine(HPA.out _ (HV.out.below HS.out.below)).mono ?_;rintro e1 w5 ⟨rfl,hb5⟩;have HS:=upS HS hb5;clear hb5;obtain⟨i0,i1,i2,i3,i4,q0,q1,q2,q3⟩:=HS.out.rl))
   have x18:=HS.out.st.cell 18
   rw [zh1 HSs.out] at x18
   have z18:=HS.out.st.frozen (18)
   have HS0:=HS
   have HS:=hD (HS.out.set (18) (.int .i64 av))
   rw [← zc1 HSs.out av] at HS
   have HSs:Hid (StOk { s with left:=av }):=hD (⟨HSs.out.y,HSs.out.x⟩)
   go_upto_region 71 with(fail)
   obtain⟨C,HC,HSZ,H1⟩:=genS HSs
   rw [HC.out] at HS
   go_wp2_with (first | (refine ldS HS HSZ rfl (.tmp 7) rfl rfl ?_) | (refine stS HS HZS HSZ H1 rfl (.tmp 8) (.tmp 296) rfl rfl rfl ?_))
   exact finD HS HZS HSZ HSs HC HR rfl rfl rfl rfl fun _=>by rw [← HAV.out];rfl
 ·obtain rfl:al=false:=hal.trans (by decide)
  clear hal
  as_aux_lemma=>
   go_upto_region 37 with(fail)
   have HR:=HRt (q:=true) HRR rfl
   obtain⟨bk,rfl,hbk⟩:=nat16 (a:=b) (hi.xb (by simp))
   have HW:=hD (fun w=>zn3 s.x bk HSs.out.x (by omega) w)
   have x0:=HS.out.st.cell 0
   rw [stA_x] at x0
   have z0:=HS.out.st.frozen 0
   go_upto_region 68 with(first | (go_at_call 68;refine(HW.out _).mono ?_;rintro e1 w5 ⟨rfl,rfl⟩))
   have HS:=hD (HS.out.set 0 (.int .u32 ((s.x ||| 2 ^ bk:Nat):Int)))
   rw [← za6 s bk] at HS
   have HSs:Hid (StOk (regV s (bk:Int))):=hD (HSs.out.reg (by omega) (by omega))
   obtain⟨C,HC,HSZ,H1⟩:=genS HSs
   rw [HC.out] at HS
   go_upto_region 71 with(first | (go_at_call 70;refine(HPA.out _ (HV.out.below HS.out.below)).mono ?_;rintro e1 w5 ⟨rfl,hb5⟩;have HS:=upS HS hb5;clear hb5;obtain⟨i0,i1,i2,i3,i4,q0,q1,q2,q3⟩:=HS.out.rl))
   go_wp2_with (first | (refine ldS HS HSZ rfl (.tmp 7) rfl rfl ?_) | (refine stS HS HZS HSZ H1 rfl (.tmp 8) (.tmp 296) rfl rfl rfl ?_))
   exact finD HS HZS HSZ HSs HC HR rfl rfl rfl rfl fun _=>rfl
 ·obtain rfl:al=false:=hal.trans (by decide)
  clear hal
  as_aux_lemma=>
   go_upto_region 41 with(fail)
   have HR:=HRt (q:=decide (s.env<0)) HRR rfl
   go_upto_region 42 with(fail)
   have z1:=HS.out.st.frozen (1)
   have HS0:=HS
   have HS:=hD (HS.out.set (1) (.int .i64 a))
   rw [← zn5 s a] at HS
   have HSs:Hid (StOk { s with env:=a }):=hD (⟨HSs.out.y,HSs.out.x⟩)
   go_upto_region 68 with(fail)
   generalize s.env=en_ at HR x1
   obtain⟨C,HC,HSZ,H1⟩:=genS HSs
   rw [HC.out] at HS
   go_upto_region 71 with(first | (go_at_call 70;refine(HPA.out _ (HV.out.below HS.out.below)).mono ?_;rintro e1 w5 ⟨rfl,hb5⟩;have HS:=upS HS hb5;clear hb5;obtain⟨i0,i1,i2,i3,i4,q0,q1,q2,q3⟩:=HS.out.rl))
   go_wp2_with (first | (refine ldS HS HSZ rfl (.tmp 7) rfl rfl ?_) | (refine stS HS HZS HSZ H1 rfl (.tmp 8) (.tmp 296) rfl rfl rfl ?_))
   exact finD HS HZS HSZ HSs HC HR rfl rfl rfl rfl fun _=>rfl
 ·obtain rfl:al=false:=hal.trans (by decide)
  clear hal
  as_aux_lemma=>
   go_upto_region 67 with(fail)
   have HSB:=hD (fun w=>zx2 s.x 0 hs.x (by omega) w)
   have HR:=HRt (q:=s.x.testBit 0) HRR rfl
   generalize s.x.testBit 0=q at HSB HR
   go_upto_region 68 with(first | (go_at_call 67;refine(HSB.out _).mono ?_;rintro e1 w5 ⟨rfl,rfl⟩))
   obtain⟨C,HC,HSZ,H1⟩:=genS HSs
   rw [HC.out] at HS
   go_upto_region 71 with(first | (go_at_call 70;refine(HPA.out _ (HV.out.below HS.out.below)).mono ?_;rintro e1 w5 ⟨rfl,hb5⟩;have HS:=upS HS hb5;clear hb5;obtain⟨i0,i1,i2,i3,i4,q0,q1,q2,q3⟩:=HS.out.rl))
   go_wp2_with (first | (refine ldS HS HSZ rfl (.tmp 7) rfl rfl ?_) | (refine stS HS HZS HSZ H1 rfl (.tmp 8) (.tmp 296) rfl rfl rfl ?_))
   exact finD HS HZS HSZ HSs HC HR rfl rfl rfl rfl fun _=>rfl
end Go.Proofs.YtlmbiafloiompaaGreatDoor
