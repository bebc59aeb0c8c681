/-
 The document's step (layer 11),instruction by instruction: 2,19,23,21,22,25,24,16. Conditions: an object that may be,an instruction of it,no parts to come,another way where it is asked.
-/
import Derived.Test.YtlmbiafloiompaaGreatDoorJL21
import Derived.Test.YtlmbiafloiompaaGreatDoorJL13
import Derived.Shelf.Abstract
namespace Go.Proofs.YtlmbiafloiompaaGreatDoor
open Go Go.RowKit
set_option linter.unusedVariables false
set_option linter.unusedSimpArgs false
set_option maxRecDepth 100000
set_option maxHeartbeats 8000000 in
theorem rstep_2 {o:Ob} (ho:ObK o) {a b c d:Int} (hi:InsK o (2,a,b,c,d)) (own:Int) {s:VSt} (hs:StOk s) (hl:s.left=0) (ha:s.alt=false) {va vf vp vc:Value} (w:World) (hv:ObAt w va vf vp vc o) :
  Calls Tryz.prog 32 #[.agg #[va,vf,vp,vc],.int .i64 own,.agg #[.int .i64 2,.int .i64 a,.int .i64 b,.int .i64 c,.int .i64 d],.agg (stA s)] w (StepD o own (2,a,b,c,d) s w):=by
 obtain⟨A1,c1,rfl⟩:=CellsAt.form hv.atoms
 obtain⟨A2,cf,rfl⟩:=CellsAt.form hv.funs
 obtain⟨A3,cp,rfl⟩:=CellsAt.form hv.preds
 obtain⟨A4,c4,rfl⟩:=CellsAt.form hv.code
 have HV:=hD hv
 have HSs:=hD hs
 have HPA:=hD (fun W h=>zf1 (o:=o) (op:=2) (a:=a) (b:=b) (c:=c) (d:=d) (fun h=>hi.fa h) W (va:=.slice A1 o.atoms.length c1) (vf:=.slice A2 o.funs.length cf) (vp:=.slice A3 o.preds.length cp) (vc:=.slice A4 o.code.length c4) h)
 have HS0:=hD (SdW.start w #[.slice A1 o.atoms.length c1,.slice A2 o.funs.length cf,.slice A3 o.preds.length cp,.slice A4 o.code.length c4] #[.int .i64 2,.int .i64 a,.int .i64 b,.int .i64 c,.int .i64 d] (stA s) zeroA)
 have HZE:Hid (zeroA=#[.int .u32 0,.int .i64 0,.int .i64 0,.int .i64 0,.int .i64 0,.int .i64 0,.int .i64 0,.int .i64 0,.int .i64 0,.int .i64 0,.int .i64 0,.int .i64 0,.int .i64 0,.int .i64 0,.int .i64 0,.int .i64 0,.int .i64 0,.int .i64 0,.int .i64 0,.bool false,.bool false]):=hD rfl
 have HZS:Hid (zeroA.size=21):=hD rfl
 generalize zeroA=O at HS0 HZE HZS
 have HRR:=hD (ze1 (o:=o) (ar:=arityP o own) (op:=2) (a:=a) (b:=b) (c:=c) (d:=d) (s:=s) (by rw [ha];rfl) rfl hl)
 clear hv
 go_enter Tryz.func32,Tryz.ntmps32
 go_upto_region 1 with(fail)
 rw [← HZE.out]
 obtain⟨w1,hw1⟩:∃ w1,(((w.alloc (.cells #[.slice A1 o.atoms.length c1,.slice A2 o.funs.length cf,.slice A3 o.preds.length cp,.slice A4 o.code.length c4] 27)).alloc (.cells #[.int .i64 2,.int .i64 a,.int .i64 b,.int .i64 c,.int .i64 d] 54)).alloc (.cells (stA s) 95)).alloc (.cells O 95)=w1:=⟨_,rfl⟩
 obtain⟨g,hg⟩:∃ g,w.heap.size=g:=⟨_,rfl⟩
 rw [hw1] at HS0 ⊢
 rw [hg] at HS0 ⊢
 clear hw1 HZE hg
 have i0:=HS0.out.ins.cell 0
 have i1:=HS0.out.ins.cell 1
 have i2:=HS0.out.ins.cell 2
 go_quiet (fail)
 have HS:=hD (HS0.out.drewN nq)
 obtain⟨w2,hw2⟩:∃ w2,w1.drewN nq=w2:=⟨_,rfl⟩
 rw [hw2] at HS ⊢
 clear hw2 HS0 i0 i1 i2
 have i0:=HS.out.ins.cell 0
 have i1:=HS.out.ins.cell 1
 have i2:=HS.out.ins.cell 2
 have i3:=HS.out.ins.cell 3
 have i4:=HS.out.ins.cell 4
 have q0:=HS.out.ob.cell 0
 have q1:=HS.out.ob.cell 1
 have q2:=HS.out.ob.cell 2
 have q3:=HS.out.ob.cell 3
 have x0:=HS.out.st.cell 0
 rw [stA_x] at x0
 have x1:=HS.out.st.cell 1
 rw [zj1] at x1
 have x18:=HS.out.st.cell 18
 rw [zv HSs.out,hl] at x18
 have x19:=HS.out.st.cell 19
 rw [zg1 HSs.out,ha] at x19
 have x20:=HS.out.st.cell 20
 rw [za1 HSs.out] at x20
 go_upto_region 21 with(fail)
 obtain⟨hb0,hb1⟩:=hi.xb (by simp)
 simp only at hb0 hb1
 obtain⟨bk,rfl⟩:∃ bk:Nat,b=(bk:Int):=⟨b.toNat,by omega⟩
 have hbk:bk<16:=by omega
 obtain⟨hr0,hr1⟩:=hi.rg (by simp)
 simp only at hr0 hr1
 have HSB:=hD (fun w=>za3 s.x bk hs.x hbk w)
 have HT:=hD (fun w=>zq5 hs a hr0 hr1 w)
 have HR0:Hid (asksV o (arityP o own) (2,a,(bk:Int),c,d) s=(s.x.testBit bk && termV s a)):=hD (by rw [HRR.out];rfl)
 generalize s.x.testBit bk=q1 at HSB HR0
 generalize termV s a=bq at HT HR0
 cases q1 with
 | false=>
  have HR:Hid (asksV o (arityP o own) (2,a,(bk:Int),c,d) s=false):=hD HR0.out
  go_upto_region 68 with(first | (go_at_call 67;refine(HSB.out _).mono ?_;rintro e1 w5 ⟨rfl,rfl⟩))
  have HSZ:=hD (zg HSs.out)
  have H1:=hD (zp s)
  generalize hC:stA s=C at HS HSZ H1
  have HC:=hD hC
  clear hC
  go_upto_region 71 with(first | (go_at_call 70;refine(HPA.out _ (HV.out.below HS.out.below)).mono ?_;rintro e1 w5 ⟨rfl,hb5⟩;have HS:=hD (HS.out.up hb5);clear hb5;have i0:=HS.out.ins.cell 0;have i1:=HS.out.ins.cell 1;have i2:=HS.out.ins.cell 2;have i3:=HS.out.ins.cell 3;have i4:=HS.out.ins.cell 4;have q0:=HS.out.ob.cell 0;have q1:=HS.out.ob.cell 1;have q2:=HS.out.ob.cell 2;have q3:=HS.out.ob.cell 3))
  go_wp2_with (first | (refine zb zr zd rfl (.tmp 7) rfl (g+1+1) 0 rfl C (zf HS.out.st) HSZ.out ?_) | (refine za zd rfl (.tmp 8) (.tmp 296) rfl (g+1+1+1) 0 C rfl rfl (zi HS.out.re (by rw [HZS.out];decide)) HSZ.out H1.out ?_))
  exact bodyPost_ret (zh rfl _ _ (g+1+1+1) C rfl (HS.out.fin (HSZ.out.trans HZS.out.symm)).1 HSZ.out) rfl (StepD.of s HSs.out HC.out (q:=false) HR.out rfl (fun h=>by rw [HR.out] at h;cases h) (HS.out.fin (HSZ.out.trans HZS.out.symm)).2)
 | true=>
  have HR:Hid (asksV o (arityP o own) (2,a,(bk:Int),c,d) s=bq):=hD (by rw [HR0.out,Bool.true_and])
  have HSZ:=hD (zg HSs.out)
  go_upto_region 68 with(first | (go_at_call 67;refine(HSB.out _).mono ?_;rintro e1 w5 ⟨rfl,rfl⟩) | (refine zw zr zd (by kernel_rfl) (.tmp 7) rfl (g+1+1) 0 rfl (stA s) (zf HS.out.st) HSZ.out ?_) | (go_at_call 65;refine(HT.out _).mono ?_;rintro e1 w5 ⟨rfl,hb5⟩;have HS:=hD (HS.out.up hb5);clear hb5;have i0:=HS.out.ins.cell 0;have i1:=HS.out.ins.cell 1;have i2:=HS.out.ins.cell 2;have i3:=HS.out.ins.cell 3;have i4:=HS.out.ins.cell 4;have q0:=HS.out.ob.cell 0;have q1:=HS.out.ob.cell 1;have q2:=HS.out.ob.cell 2;have q3:=HS.out.ob.cell 3))
  clear HSZ
  have HSZ:=hD (zg HSs.out)
  have H1:=hD (zp s)
  generalize hC:stA s=C at HS HSZ H1
  have HC:=hD hC
  clear hC
  go_upto_region 71 with(first | (go_at_call 70;refine(HPA.out _ (HV.out.below HS.out.below)).mono ?_;rintro e1 w5 ⟨rfl,hb5⟩;have HS:=hD (HS.out.up hb5);clear hb5;have i0:=HS.out.ins.cell 0;have i1:=HS.out.ins.cell 1;have i2:=HS.out.ins.cell 2;have i3:=HS.out.ins.cell 3;have i4:=HS.out.ins.cell 4;have q0:=HS.out.ob.cell 0;have q1:=HS.out.ob.cell 1;have q2:=HS.out.ob.cell 2;have q3:=HS.out.ob.cell 3))
  go_wp2_with (first | (refine zb zr zd rfl (.tmp 7) rfl (g+1+1) 0 rfl C (zf HS.out.st) HSZ.out ?_) | (refine za zd rfl (.tmp 8) (.tmp 296) rfl (g+1+1+1) 0 C rfl rfl (zi HS.out.re (by rw [HZS.out];decide)) HSZ.out H1.out ?_))
  exact bodyPost_ret (zh rfl _ _ (g+1+1+1) C rfl (HS.out.fin (HSZ.out.trans HZS.out.symm)).1 HSZ.out) rfl (StepD.of s HSs.out HC.out (q:=bq) HR.out rfl (fun _=>rfl) (HS.out.fin (HSZ.out.trans HZS.out.symm)).2)
set_option maxHeartbeats 8000000 in
theorem rstep_19 {o:Ob} (ho:ObK o) {a b c d:Int} (hi:InsK o (19,a,b,c,d)) (own:Int) {s:VSt} (hs:StOk s) (hl:s.left=0) (ha:s.alt=false) {va vf vp vc:Value} (w:World) (hv:ObAt w va vf vp vc o) :
  Calls Tryz.prog 32 #[.agg #[va,vf,vp,vc],.int .i64 own,.agg #[.int .i64 19,.int .i64 a,.int .i64 b,.int .i64 c,.int .i64 d],.agg (stA s)] w (StepD o own (19,a,b,c,d) s w):=by
 obtain⟨A1,c1,rfl⟩:=CellsAt.form hv.atoms
 obtain⟨A2,cf,rfl⟩:=CellsAt.form hv.funs
 obtain⟨A3,cp,rfl⟩:=CellsAt.form hv.preds
 obtain⟨A4,c4,rfl⟩:=CellsAt.form hv.code
 have HV:=hD hv
 have HSs:=hD hs
 have HPA:=hD (fun W h=>zf1 (o:=o) (op:=19) (a:=a) (b:=b) (c:=c) (d:=d) (fun h=>hi.fa h) W (va:=.slice A1 o.atoms.length c1) (vf:=.slice A2 o.funs.length cf) (vp:=.slice A3 o.preds.length cp) (vc:=.slice A4 o.code.length c4) h)
 have HS0:=hD (SdW.start w #[.slice A1 o.atoms.length c1,.slice A2 o.funs.length cf,.slice A3 o.preds.length cp,.slice A4 o.code.length c4] #[.int .i64 19,.int .i64 a,.int .i64 b,.int .i64 c,.int .i64 d] (stA s) zeroA)
 have HZE:Hid (zeroA=#[.int .u32 0,.int .i64 0,.int .i64 0,.int .i64 0,.int .i64 0,.int .i64 0,.int .i64 0,.int .i64 0,.int .i64 0,.int .i64 0,.int .i64 0,.int .i64 0,.int .i64 0,.int .i64 0,.int .i64 0,.int .i64 0,.int .i64 0,.int .i64 0,.int .i64 0,.bool false,.bool false]):=hD rfl
 have HZS:Hid (zeroA.size=21):=hD rfl
 generalize zeroA=O at HS0 HZE HZS
 have HRR:=hD (ze1 (o:=o) (ar:=arityP o own) (op:=19) (a:=a) (b:=b) (c:=c) (d:=d) (s:=s) (by rw [ha];rfl) rfl hl)
 clear hv
 go_enter Tryz.func32,Tryz.ntmps32
 go_upto_region 1 with(fail)
 rw [← HZE.out]
 obtain⟨w1,hw1⟩:∃ w1,(((w.alloc (.cells #[.slice A1 o.atoms.length c1,.slice A2 o.funs.length cf,.slice A3 o.preds.length cp,.slice A4 o.code.length c4] 27)).alloc (.cells #[.int .i64 19,.int .i64 a,.int .i64 b,.int .i64 c,.int .i64 d] 54)).alloc (.cells (stA s) 95)).alloc (.cells O 95)=w1:=⟨_,rfl⟩
 obtain⟨g,hg⟩:∃ g,w.heap.size=g:=⟨_,rfl⟩
 rw [hw1] at HS0 ⊢
 rw [hg] at HS0 ⊢
 clear hw1 HZE hg
 have i0:=HS0.out.ins.cell 0
 have i1:=HS0.out.ins.cell 1
 have i2:=HS0.out.ins.cell 2
 go_quiet (fail)
 have HS:=hD (HS0.out.drewN nq)
 obtain⟨w2,hw2⟩:∃ w2,w1.drewN nq=w2:=⟨_,rfl⟩
 rw [hw2] at HS ⊢
 clear hw2 HS0 i0 i1 i2
 have i0:=HS.out.ins.cell 0
 have i1:=HS.out.ins.cell 1
 have i2:=HS.out.ins.cell 2
 have i3:=HS.out.ins.cell 3
 have i4:=HS.out.ins.cell 4
 have q0:=HS.out.ob.cell 0
 have q1:=HS.out.ob.cell 1
 have q2:=HS.out.ob.cell 2
 have q3:=HS.out.ob.cell 3
 have x0:=HS.out.st.cell 0
 rw [stA_x] at x0
 have x1:=HS.out.st.cell 1
 rw [zj1] at x1
 have x18:=HS.out.st.cell 18
 rw [zv HSs.out,hl] at x18
 have x19:=HS.out.st.cell 19
 rw [zg1 HSs.out,ha] at x19
 have x20:=HS.out.st.cell 20
 rw [za1 HSs.out] at x20
 go_upto_region 52 with(fail)
 have HR:Hid (asksV o (arityP o own) (19,a,b,c,d) s=decide (s.env<0)):=hD (by rw [HRR.out];rfl)
 generalize s.env=en_ at HR x1
 go_upto_region 68 with(fail)
 have HSZ:=hD (zg HSs.out)
 have H1:=hD (zp s)
 generalize hC:stA s=C at HS HSZ H1
 have HC:=hD hC
 clear hC
 go_upto_region 71 with(first | (go_at_call 70;refine(HPA.out _ (HV.out.below HS.out.below)).mono ?_;rintro e1 w5 ⟨rfl,hb5⟩;have HS:=hD (HS.out.up hb5);clear hb5;have i0:=HS.out.ins.cell 0;have i1:=HS.out.ins.cell 1;have i2:=HS.out.ins.cell 2;have i3:=HS.out.ins.cell 3;have i4:=HS.out.ins.cell 4;have q0:=HS.out.ob.cell 0;have q1:=HS.out.ob.cell 1;have q2:=HS.out.ob.cell 2;have q3:=HS.out.ob.cell 3))
 go_wp2_with (first | (refine zb zr zd rfl (.tmp 7) rfl (g+1+1) 0 rfl C (zf HS.out.st) HSZ.out ?_) | (refine za zd rfl (.tmp 8) (.tmp 296) rfl (g+1+1+1) 0 C rfl rfl (zi HS.out.re (by rw [HZS.out];decide)) HSZ.out H1.out ?_))
 exact bodyPost_ret (zh rfl _ _ (g+1+1+1) C rfl (HS.out.fin (HSZ.out.trans HZS.out.symm)).1 HSZ.out) rfl (StepD.of s HSs.out HC.out (q:=decide (en_<0)) HR.out rfl (fun _=>rfl) (HS.out.fin (HSZ.out.trans HZS.out.symm)).2)
set_option maxHeartbeats 8000000 in
theorem rstep_23 {o:Ob} (ho:ObK o) {a b c d:Int} (hi:InsK o (23,a,b,c,d)) (own:Int) {s:VSt} (hs:StOk s) (hl:s.left=0) (ha:s.alt=false) {va vf vp vc:Value} (w:World) (hv:ObAt w va vf vp vc o) :
  Calls Tryz.prog 32 #[.agg #[va,vf,vp,vc],.int .i64 own,.agg #[.int .i64 23,.int .i64 a,.int .i64 b,.int .i64 c,.int .i64 d],.agg (stA s)] w (StepD o own (23,a,b,c,d) s w):=by
 obtain⟨A1,c1,rfl⟩:=CellsAt.form hv.atoms
 obtain⟨A2,cf,rfl⟩:=CellsAt.form hv.funs
 obtain⟨A3,cp,rfl⟩:=CellsAt.form hv.preds
 obtain⟨A4,c4,rfl⟩:=CellsAt.form hv.code
 have HV:=hD hv
 have HSs:=hD hs
 have HPA:=hD (fun W h=>zf1 (o:=o) (op:=23) (a:=a) (b:=b) (c:=c) (d:=d) (fun h=>hi.fa h) W (va:=.slice A1 o.atoms.length c1) (vf:=.slice A2 o.funs.length cf) (vp:=.slice A3 o.preds.length cp) (vc:=.slice A4 o.code.length c4) h)
 have HS0:=hD (SdW.start w #[.slice A1 o.atoms.length c1,.slice A2 o.funs.length cf,.slice A3 o.preds.length cp,.slice A4 o.code.length c4] #[.int .i64 23,.int .i64 a,.int .i64 b,.int .i64 c,.int .i64 d] (stA s) zeroA)
 have HZE:Hid (zeroA=#[.int .u32 0,.int .i64 0,.int .i64 0,.int .i64 0,.int .i64 0,.int .i64 0,.int .i64 0,.int .i64 0,.int .i64 0,.int .i64 0,.int .i64 0,.int .i64 0,.int .i64 0,.int .i64 0,.int .i64 0,.int .i64 0,.int .i64 0,.int .i64 0,.int .i64 0,.bool false,.bool false]):=hD rfl
 have HZS:Hid (zeroA.size=21):=hD rfl
 generalize zeroA=O at HS0 HZE HZS
 have HRR:=hD (ze1 (o:=o) (ar:=arityP o own) (op:=23) (a:=a) (b:=b) (c:=c) (d:=d) (s:=s) (by rw [ha];rfl) rfl hl)
 clear hv
 go_enter Tryz.func32,Tryz.ntmps32
 go_upto_region 1 with(fail)
 rw [← HZE.out]
 obtain⟨w1,hw1⟩:∃ w1,(((w.alloc (.cells #[.slice A1 o.atoms.length c1,.slice A2 o.funs.length cf,.slice A3 o.preds.length cp,.slice A4 o.code.length c4] 27)).alloc (.cells #[.int .i64 23,.int .i64 a,.int .i64 b,.int .i64 c,.int .i64 d] 54)).alloc (.cells (stA s) 95)).alloc (.cells O 95)=w1:=⟨_,rfl⟩
 obtain⟨g,hg⟩:∃ g,w.heap.size=g:=⟨_,rfl⟩
 rw [hw1] at HS0 ⊢
 rw [hg] at HS0 ⊢
 clear hw1 HZE hg
 have i0:=HS0.out.ins.cell 0
 have i1:=HS0.out.ins.cell 1
 have i2:=HS0.out.ins.cell 2
 go_quiet (fail)
 have HS:=hD (HS0.out.drewN nq)
 obtain⟨w2,hw2⟩:∃ w2,w1.drewN nq=w2:=⟨_,rfl⟩
 rw [hw2] at HS ⊢
 clear hw2 HS0 i0 i1 i2
 have i0:=HS.out.ins.cell 0
 have i1:=HS.out.ins.cell 1
 have i2:=HS.out.ins.cell 2
 have i3:=HS.out.ins.cell 3
 have i4:=HS.out.ins.cell 4
 have q0:=HS.out.ob.cell 0
 have q1:=HS.out.ob.cell 1
 have q2:=HS.out.ob.cell 2
 have q3:=HS.out.ob.cell 3
 have x0:=HS.out.st.cell 0
 rw [stA_x] at x0
 have x1:=HS.out.st.cell 1
 rw [zj1] at x1
 have x18:=HS.out.st.cell 18
 rw [zv HSs.out,hl] at x18
 have x19:=HS.out.st.cell 19
 rw [zg1 HSs.out,ha] at x19
 have x20:=HS.out.st.cell 20
 rw [za1 HSs.out] at x20
 go_upto_region 59 with(fail)
 have HR:Hid (asksV o (arityP o own) (23,a,b,c,d) s=s.neck):=hD (by rw [HRR.out];rfl)
 generalize s.neck=nk at HR x20
 go_upto_region 68 with(fail)
 have HSZ:=hD (zg HSs.out)
 have H1:=hD (zp s)
 generalize hC:stA s=C at HS HSZ H1
 have HC:=hD hC
 clear hC
 go_upto_region 71 with(first | (go_at_call 70;refine(HPA.out _ (HV.out.below HS.out.below)).mono ?_;rintro e1 w5 ⟨rfl,hb5⟩;have HS:=hD (HS.out.up hb5);clear hb5;have i0:=HS.out.ins.cell 0;have i1:=HS.out.ins.cell 1;have i2:=HS.out.ins.cell 2;have i3:=HS.out.ins.cell 3;have i4:=HS.out.ins.cell 4;have q0:=HS.out.ob.cell 0;have q1:=HS.out.ob.cell 1;have q2:=HS.out.ob.cell 2;have q3:=HS.out.ob.cell 3))
 go_wp2_with (first | (refine zb zr zd rfl (.tmp 7) rfl (g+1+1) 0 rfl C (zf HS.out.st) HSZ.out ?_) | (refine za zd rfl (.tmp 8) (.tmp 296) rfl (g+1+1+1) 0 C rfl rfl (zi HS.out.re (by rw [HZS.out];decide)) HSZ.out H1.out ?_))
 exact bodyPost_ret (zh rfl _ _ (g+1+1+1) C rfl (HS.out.fin (HSZ.out.trans HZS.out.symm)).1 HSZ.out) rfl (StepD.of s HSs.out HC.out (q:=nk) HR.out rfl (fun _=>rfl) (HS.out.fin (HSZ.out.trans HZS.out.symm)).2)
set_option maxHeartbeats 8000000 in
theorem rstep_21 {o:Ob} (ho:ObK o) {a b c d:Int} (hi:InsK o (21,a,b,c,d)) (own:Int) {s:VSt} (hs:StOk s) (hl:s.left=0) (ha:s.alt=true) {va vf vp vc:Value} (w:World) (hv:ObAt w va vf vp vc o) :
  Calls Tryz.prog 32 #[.agg #[va,vf,vp,vc],.int .i64 own,.agg #[.int .i64 21,.int .i64 a,.int .i64 b,.int .i64 c,.int .i64 d],.agg (stA s)] w (StepD o own (21,a,b,c,d) s w):=by
 obtain⟨A1,c1,rfl⟩:=CellsAt.form hv.atoms
 obtain⟨A2,cf,rfl⟩:=CellsAt.form hv.funs
 obtain⟨A3,cp,rfl⟩:=CellsAt.form hv.preds
 obtain⟨A4,c4,rfl⟩:=CellsAt.form hv.code
 have HV:=hD hv
 have HSs:=hD hs
 have HPA:=hD (fun W h=>zf1 (o:=o) (op:=21) (a:=a) (b:=b) (c:=c) (d:=d) (fun h=>hi.fa h) W (va:=.slice A1 o.atoms.length c1) (vf:=.slice A2 o.funs.length cf) (vp:=.slice A3 o.preds.length cp) (vc:=.slice A4 o.code.length c4) h)
 have HS0:=hD (SdW.start w #[.slice A1 o.atoms.length c1,.slice A2 o.funs.length cf,.slice A3 o.preds.length cp,.slice A4 o.code.length c4] #[.int .i64 21,.int .i64 a,.int .i64 b,.int .i64 c,.int .i64 d] (stA s) zeroA)
 have HZE:Hid (zeroA=#[.int .u32 0,.int .i64 0,.int .i64 0,.int .i64 0,.int .i64 0,.int .i64 0,.int .i64 0,.int .i64 0,.int .i64 0,.int .i64 0,.int .i64 0,.int .i64 0,.int .i64 0,.int .i64 0,.int .i64 0,.int .i64 0,.int .i64 0,.int .i64 0,.int .i64 0,.bool false,.bool false]):=hD rfl
 have HZS:Hid (zeroA.size=21):=hD rfl
 generalize zeroA=O at HS0 HZE HZS
 have HRR:=hD (ze1 (o:=o) (ar:=arityP o own) (op:=21) (a:=a) (b:=b) (c:=c) (d:=d) (s:=s) (by rw [ha];rfl) rfl hl)
 clear hv
 go_enter Tryz.func32,Tryz.ntmps32
 go_upto_region 1 with(fail)
 rw [← HZE.out]
 obtain⟨w1,hw1⟩:∃ w1,(((w.alloc (.cells #[.slice A1 o.atoms.length c1,.slice A2 o.funs.length cf,.slice A3 o.preds.length cp,.slice A4 o.code.length c4] 27)).alloc (.cells #[.int .i64 21,.int .i64 a,.int .i64 b,.int .i64 c,.int .i64 d] 54)).alloc (.cells (stA s) 95)).alloc (.cells O 95)=w1:=⟨_,rfl⟩
 obtain⟨g,hg⟩:∃ g,w.heap.size=g:=⟨_,rfl⟩
 rw [hw1] at HS0 ⊢
 rw [hg] at HS0 ⊢
 clear hw1 HZE hg
 have i0:=HS0.out.ins.cell 0
 have i1:=HS0.out.ins.cell 1
 have i2:=HS0.out.ins.cell 2
 go_quiet (fail)
 have HS:=hD (HS0.out.drewN nq)
 obtain⟨w2,hw2⟩:∃ w2,w1.drewN nq=w2:=⟨_,rfl⟩
 rw [hw2] at HS ⊢
 clear hw2 HS0 i0 i1 i2
 have i0:=HS.out.ins.cell 0
 have i1:=HS.out.ins.cell 1
 have i2:=HS.out.ins.cell 2
 have i3:=HS.out.ins.cell 3
 have i4:=HS.out.ins.cell 4
 have q0:=HS.out.ob.cell 0
 have q1:=HS.out.ob.cell 1
 have q2:=HS.out.ob.cell 2
 have q3:=HS.out.ob.cell 3
 have x0:=HS.out.st.cell 0
 rw [stA_x] at x0
 have x1:=HS.out.st.cell 1
 rw [zj1] at x1
 have x18:=HS.out.st.cell 18
 rw [zv HSs.out,hl] at x18
 have x19:=HS.out.st.cell 19
 rw [zg1 HSs.out,ha] at x19
 have x20:=HS.out.st.cell 20
 rw [za1 HSs.out] at x20
 go_upto_region 57 with(fail)
 have HR:Hid (asksV o (arityP o own) (21,a,b,c,d) s=true):=hD (by rw [HRR.out];rfl)
 go_upto_region 57 with(fail)
 have z19:=HS.out.st.frozen (19)
 have HS0:=HS
 have HS:=hD (HS.out.set (19) (.bool false))
 rw [← zc5 HSs.out false] at HS
 have HSs:Hid (StOk { s with alt:=false }):=hD (⟨HSs.out.y,HSs.out.x⟩)
 go_upto_region 68 with(fail)
 have HSZ:=hD (zg HSs.out)
 have H1:=hD (zp { s with alt:=false })
 generalize hC:stA { s with alt:=false }=C at HS HSZ H1
 have HC:=hD hC
 clear hC
 go_upto_region 71 with(first | (go_at_call 70;refine(HPA.out _ (HV.out.below HS.out.below)).mono ?_;rintro e1 w5 ⟨rfl,hb5⟩;have HS:=hD (HS.out.up hb5);clear hb5;have i0:=HS.out.ins.cell 0;have i1:=HS.out.ins.cell 1;have i2:=HS.out.ins.cell 2;have i3:=HS.out.ins.cell 3;have i4:=HS.out.ins.cell 4;have q0:=HS.out.ob.cell 0;have q1:=HS.out.ob.cell 1;have q2:=HS.out.ob.cell 2;have q3:=HS.out.ob.cell 3))
 go_wp2_with (first | (refine zb zr zd rfl (.tmp 7) rfl (g+1+1) 0 rfl C (zf HS.out.st) HSZ.out ?_) | (refine za zd rfl (.tmp 8) (.tmp 296) rfl (g+1+1+1) 0 C rfl rfl (zi HS.out.re (by rw [HZS.out];decide)) HSZ.out H1.out ?_))
 exact bodyPost_ret (zh rfl _ _ (g+1+1+1) C rfl (HS.out.fin (HSZ.out.trans HZS.out.symm)).1 HSZ.out) rfl (StepD.of { s with alt:=false } HSs.out HC.out (q:=true) HR.out rfl (fun _=>rfl) (HS.out.fin (HSZ.out.trans HZS.out.symm)).2)
set_option maxHeartbeats 8000000 in
theorem rstep_22 {o:Ob} (ho:ObK o) {a b c d:Int} (hi:InsK o (22,a,b,c,d)) (own:Int) {s:VSt} (hs:StOk s) (hl:s.left=0) (ha:s.alt=true) {va vf vp vc:Value} (w:World) (hv:ObAt w va vf vp vc o) :
  Calls Tryz.prog 32 #[.agg #[va,vf,vp,vc],.int .i64 own,.agg #[.int .i64 22,.int .i64 a,.int .i64 b,.int .i64 c,.int .i64 d],.agg (stA s)] w (StepD o own (22,a,b,c,d) s w):=by
 obtain⟨A1,c1,rfl⟩:=CellsAt.form hv.atoms
 obtain⟨A2,cf,rfl⟩:=CellsAt.form hv.funs
 obtain⟨A3,cp,rfl⟩:=CellsAt.form hv.preds
 obtain⟨A4,c4,rfl⟩:=CellsAt.form hv.code
 have HV:=hD hv
 have HSs:=hD hs
 have HPA:=hD (fun W h=>zf1 (o:=o) (op:=22) (a:=a) (b:=b) (c:=c) (d:=d) (fun h=>hi.fa h) W (va:=.slice A1 o.atoms.length c1) (vf:=.slice A2 o.funs.length cf) (vp:=.slice A3 o.preds.length cp) (vc:=.slice A4 o.code.length c4) h)
 have HS0:=hD (SdW.start w #[.slice A1 o.atoms.length c1,.slice A2 o.funs.length cf,.slice A3 o.preds.length cp,.slice A4 o.code.length c4] #[.int .i64 22,.int .i64 a,.int .i64 b,.int .i64 c,.int .i64 d] (stA s) zeroA)
 have HZE:Hid (zeroA=#[.int .u32 0,.int .i64 0,.int .i64 0,.int .i64 0,.int .i64 0,.int .i64 0,.int .i64 0,.int .i64 0,.int .i64 0,.int .i64 0,.int .i64 0,.int .i64 0,.int .i64 0,.int .i64 0,.int .i64 0,.int .i64 0,.int .i64 0,.int .i64 0,.int .i64 0,.bool false,.bool false]):=hD rfl
 have HZS:Hid (zeroA.size=21):=hD rfl
 generalize zeroA=O at HS0 HZE HZS
 have HRR:=hD (ze1 (o:=o) (ar:=arityP o own) (op:=22) (a:=a) (b:=b) (c:=c) (d:=d) (s:=s) (by rw [ha];rfl) rfl hl)
 clear hv
 go_enter Tryz.func32,Tryz.ntmps32
 go_upto_region 1 with(fail)
 rw [← HZE.out]
 obtain⟨w1,hw1⟩:∃ w1,(((w.alloc (.cells #[.slice A1 o.atoms.length c1,.slice A2 o.funs.length cf,.slice A3 o.preds.length cp,.slice A4 o.code.length c4] 27)).alloc (.cells #[.int .i64 22,.int .i64 a,.int .i64 b,.int .i64 c,.int .i64 d] 54)).alloc (.cells (stA s) 95)).alloc (.cells O 95)=w1:=⟨_,rfl⟩
 obtain⟨g,hg⟩:∃ g,w.heap.size=g:=⟨_,rfl⟩
 rw [hw1] at HS0 ⊢
 rw [hg] at HS0 ⊢
 clear hw1 HZE hg
 have i0:=HS0.out.ins.cell 0
 have i1:=HS0.out.ins.cell 1
 have i2:=HS0.out.ins.cell 2
 go_quiet (fail)
 have HS:=hD (HS0.out.drewN nq)
 obtain⟨w2,hw2⟩:∃ w2,w1.drewN nq=w2:=⟨_,rfl⟩
 rw [hw2] at HS ⊢
 clear hw2 HS0 i0 i1 i2
 have i0:=HS.out.ins.cell 0
 have i1:=HS.out.ins.cell 1
 have i2:=HS.out.ins.cell 2
 have i3:=HS.out.ins.cell 3
 have i4:=HS.out.ins.cell 4
 have q0:=HS.out.ob.cell 0
 have q1:=HS.out.ob.cell 1
 have q2:=HS.out.ob.cell 2
 have q3:=HS.out.ob.cell 3
 have x0:=HS.out.st.cell 0
 rw [stA_x] at x0
 have x1:=HS.out.st.cell 1
 rw [zj1] at x1
 have x18:=HS.out.st.cell 18
 rw [zv HSs.out,hl] at x18
 have x19:=HS.out.st.cell 19
 rw [zg1 HSs.out,ha] at x19
 have x20:=HS.out.st.cell 20
 rw [za1 HSs.out] at x20
 go_upto_region 57 with(fail)
 have HR:Hid (asksV o (arityP o own) (22,a,b,c,d) s=true):=hD (by rw [HRR.out];rfl)
 go_upto_region 57 with(fail)
 have z19:=HS.out.st.frozen (19)
 have HS0:=HS
 have HS:=hD (HS.out.set (19) (.bool false))
 rw [← zc5 HSs.out false] at HS
 have HSs:Hid (StOk { s with alt:=false }):=hD (⟨HSs.out.y,HSs.out.x⟩)
 go_upto_region 68 with(fail)
 have HSZ:=hD (zg HSs.out)
 have H1:=hD (zp { s with alt:=false })
 generalize hC:stA { s with alt:=false }=C at HS HSZ H1
 have HC:=hD hC
 clear hC
 go_upto_region 71 with(first | (go_at_call 70;refine(HPA.out _ (HV.out.below HS.out.below)).mono ?_;rintro e1 w5 ⟨rfl,hb5⟩;have HS:=hD (HS.out.up hb5);clear hb5;have i0:=HS.out.ins.cell 0;have i1:=HS.out.ins.cell 1;have i2:=HS.out.ins.cell 2;have i3:=HS.out.ins.cell 3;have i4:=HS.out.ins.cell 4;have q0:=HS.out.ob.cell 0;have q1:=HS.out.ob.cell 1;have q2:=HS.out.ob.cell 2;have q3:=HS.out.ob.cell 3))
 go_wp2_with (first | (refine zb zr zd rfl (.tmp 7) rfl (g+1+1) 0 rfl C (zf HS.out.st) HSZ.out ?_) | (refine za zd rfl (.tmp 8) (.tmp 296) rfl (g+1+1+1) 0 C rfl rfl (zi HS.out.re (by rw [HZS.out];decide)) HSZ.out H1.out ?_))
 exact bodyPost_ret (zh rfl _ _ (g+1+1+1) C rfl (HS.out.fin (HSZ.out.trans HZS.out.symm)).1 HSZ.out) rfl (StepD.of { s with alt:=false } HSs.out HC.out (q:=true) HR.out rfl (fun _=>rfl) (HS.out.fin (HSZ.out.trans HZS.out.symm)).2)
set_option maxHeartbeats 8000000 in
theorem rstep_25 {o:Ob} (ho:ObK o) {a b c d:Int} (hi:InsK o (25,a,b,c,d)) (own:Int) {s:VSt} (hs:StOk s) (hl:s.left=0) (ha:s.alt=false) {va vf vp vc:Value} (w:World) (hv:ObAt w va vf vp vc o) :
  Calls Tryz.prog 32 #[.agg #[va,vf,vp,vc],.int .i64 own,.agg #[.int .i64 25,.int .i64 a,.int .i64 b,.int .i64 c,.int .i64 d],.agg (stA s)] w (StepD o own (25,a,b,c,d) s w):=by
 obtain⟨A1,c1,rfl⟩:=CellsAt.form hv.atoms
 obtain⟨A2,cf,rfl⟩:=CellsAt.form hv.funs
 obtain⟨A3,cp,rfl⟩:=CellsAt.form hv.preds
 obtain⟨A4,c4,rfl⟩:=CellsAt.form hv.code
 have HV:=hD hv
 have HSs:=hD hs
 have HPA:=hD (fun W h=>zf1 (o:=o) (op:=25) (a:=a) (b:=b) (c:=c) (d:=d) (fun h=>hi.fa h) W (va:=.slice A1 o.atoms.length c1) (vf:=.slice A2 o.funs.length cf) (vp:=.slice A3 o.preds.length cp) (vc:=.slice A4 o.code.length c4) h)
 have HS0:=hD (SdW.start w #[.slice A1 o.atoms.length c1,.slice A2 o.funs.length cf,.slice A3 o.preds.length cp,.slice A4 o.code.length c4] #[.int .i64 25,.int .i64 a,.int .i64 b,.int .i64 c,.int .i64 d] (stA s) zeroA)
 have HZE:Hid (zeroA=#[.int .u32 0,.int .i64 0,.int .i64 0,.int .i64 0,.int .i64 0,.int .i64 0,.int .i64 0,.int .i64 0,.int .i64 0,.int .i64 0,.int .i64 0,.int .i64 0,.int .i64 0,.int .i64 0,.int .i64 0,.int .i64 0,.int .i64 0,.int .i64 0,.int .i64 0,.bool false,.bool false]):=hD rfl
 have HZS:Hid (zeroA.size=21):=hD rfl
 generalize zeroA=O at HS0 HZE HZS
 have HRR:=hD (ze1 (o:=o) (ar:=arityP o own) (op:=25) (a:=a) (b:=b) (c:=c) (d:=d) (s:=s) (by rw [ha];rfl) rfl hl)
 clear hv
 go_enter Tryz.func32,Tryz.ntmps32
 go_upto_region 1 with(fail)
 rw [← HZE.out]
 obtain⟨w1,hw1⟩:∃ w1,(((w.alloc (.cells #[.slice A1 o.atoms.length c1,.slice A2 o.funs.length cf,.slice A3 o.preds.length cp,.slice A4 o.code.length c4] 27)).alloc (.cells #[.int .i64 25,.int .i64 a,.int .i64 b,.int .i64 c,.int .i64 d] 54)).alloc (.cells (stA s) 95)).alloc (.cells O 95)=w1:=⟨_,rfl⟩
 obtain⟨g,hg⟩:∃ g,w.heap.size=g:=⟨_,rfl⟩
 rw [hw1] at HS0 ⊢
 rw [hg] at HS0 ⊢
 clear hw1 HZE hg
 have i0:=HS0.out.ins.cell 0
 have i1:=HS0.out.ins.cell 1
 have i2:=HS0.out.ins.cell 2
 go_quiet (fail)
 have HS:=hD (HS0.out.drewN nq)
 obtain⟨w2,hw2⟩:∃ w2,w1.drewN nq=w2:=⟨_,rfl⟩
 rw [hw2] at HS ⊢
 clear hw2 HS0 i0 i1 i2
 have i0:=HS.out.ins.cell 0
 have i1:=HS.out.ins.cell 1
 have i2:=HS.out.ins.cell 2
 have i3:=HS.out.ins.cell 3
 have i4:=HS.out.ins.cell 4
 have q0:=HS.out.ob.cell 0
 have q1:=HS.out.ob.cell 1
 have q2:=HS.out.ob.cell 2
 have q3:=HS.out.ob.cell 3
 have x0:=HS.out.st.cell 0
 rw [stA_x] at x0
 have x1:=HS.out.st.cell 1
 rw [zj1] at x1
 have x18:=HS.out.st.cell 18
 rw [zv HSs.out,hl] at x18
 have x19:=HS.out.st.cell 19
 rw [zg1 HSs.out,ha] at x19
 have x20:=HS.out.st.cell 20
 rw [za1 HSs.out] at x20
 go_upto_region 65 with(fail)
 obtain⟨hy0,hy1⟩:=hi.ya (by simp)
 simp only at hy0 hy1
 obtain⟨ak,rfl⟩:∃ ak:Nat,a=(ak:Int):=⟨a.toNat,by omega⟩
 have hak:ak<16:=by omega
 have xy:=HS.out.st.cell (2+ak)
 rw [stA_y hs ak hak] at xy
 have HR0:Hid (asksV o (arityP o own) (25,(ak:Int),b,c,d) s=(decide ((ak:Int)<s.env) && decide (yAt s ak=2))):=hD (by rw [HRR.out];rfl)
 generalize s.env=en_ at HR0 x1
 generalize yAt s (ak:Int)=y at HR0 xy
 by_cases h1:(ak:Int)<en_
 ·by_cases h2:y=2
  ·have HR:Hid (asksV o (arityP o own) (25,(ak:Int),b,c,d) s=true):=hD (by rw [HR0.out,decide_eq_true h1,decide_eq_true h2];rfl)
   subst h2
   go_upto_region 68 with(fail)
   have HSZ:=hD (zg HSs.out)
   have H1:=hD (zp s)
   generalize hC:stA s=C at HS HSZ H1
   have HC:=hD hC
   clear hC
   go_upto_region 71 with(first | (go_at_call 70;refine(HPA.out _ (HV.out.below HS.out.below)).mono ?_;rintro e1 w5 ⟨rfl,hb5⟩;have HS:=hD (HS.out.up hb5);clear hb5;have i0:=HS.out.ins.cell 0;have i1:=HS.out.ins.cell 1;have i2:=HS.out.ins.cell 2;have i3:=HS.out.ins.cell 3;have i4:=HS.out.ins.cell 4;have q0:=HS.out.ob.cell 0;have q1:=HS.out.ob.cell 1;have q2:=HS.out.ob.cell 2;have q3:=HS.out.ob.cell 3))
   go_wp2_with (first | (refine zb zr zd rfl (.tmp 7) rfl (g+1+1) 0 rfl C (zf HS.out.st) HSZ.out ?_) | (refine za zd rfl (.tmp 8) (.tmp 296) rfl (g+1+1+1) 0 C rfl rfl (zi HS.out.re (by rw [HZS.out];decide)) HSZ.out H1.out ?_))
   exact bodyPost_ret (zh rfl _ _ (g+1+1+1) C rfl (HS.out.fin (HSZ.out.trans HZS.out.symm)).1 HSZ.out) rfl (StepD.of s HSs.out HC.out (q:=true) HR.out rfl (fun _=>rfl) (HS.out.fin (HSZ.out.trans HZS.out.symm)).2)
  ·have HR:Hid (asksV o (arityP o own) (25,(ak:Int),b,c,d) s=false):=hD (by rw [HR0.out,decide_eq_false h2,Bool.and_false])
   have h3:(y == 2)=false:=beq_eq_false_iff_ne.2 h2
   go_upto_region 68 with(fail)
   have HSZ:=hD (zg HSs.out)
   have H1:=hD (zp s)
   generalize hC:stA s=C at HS HSZ H1
   have HC:=hD hC
   clear hC
   go_upto_region 71 with(first | (go_at_call 70;refine(HPA.out _ (HV.out.below HS.out.below)).mono ?_;rintro e1 w5 ⟨rfl,hb5⟩;have HS:=hD (HS.out.up hb5);clear hb5;have i0:=HS.out.ins.cell 0;have i1:=HS.out.ins.cell 1;have i2:=HS.out.ins.cell 2;have i3:=HS.out.ins.cell 3;have i4:=HS.out.ins.cell 4;have q0:=HS.out.ob.cell 0;have q1:=HS.out.ob.cell 1;have q2:=HS.out.ob.cell 2;have q3:=HS.out.ob.cell 3))
   go_wp2_with (first | (refine zb zr zd rfl (.tmp 7) rfl (g+1+1) 0 rfl C (zf HS.out.st) HSZ.out ?_) | (refine za zd rfl (.tmp 8) (.tmp 296) rfl (g+1+1+1) 0 C rfl rfl (zi HS.out.re (by rw [HZS.out];decide)) HSZ.out H1.out ?_))
   exact bodyPost_ret (zh rfl _ _ (g+1+1+1) C rfl (HS.out.fin (HSZ.out.trans HZS.out.symm)).1 HSZ.out) rfl (StepD.of s HSs.out HC.out (q:=false) HR.out rfl (fun h=>by rw [HR.out] at h;cases h) (HS.out.fin (HSZ.out.trans HZS.out.symm)).2)
 ·have HR:Hid (asksV o (arityP o own) (25,(ak:Int),b,c,d) s=false):=hD (by rw [HR0.out,decide_eq_false h1,Bool.false_and])
  go_upto_region 68 with(fail)
  have HSZ:=hD (zg HSs.out)
  have H1:=hD (zp s)
  generalize hC:stA s=C at HS HSZ H1
  have HC:=hD hC
  clear hC
  go_upto_region 71 with(first | (go_at_call 70;refine(HPA.out _ (HV.out.below HS.out.below)).mono ?_;rintro e1 w5 ⟨rfl,hb5⟩;have HS:=hD (HS.out.up hb5);clear hb5;have i0:=HS.out.ins.cell 0;have i1:=HS.out.ins.cell 1;have i2:=HS.out.ins.cell 2;have i3:=HS.out.ins.cell 3;have i4:=HS.out.ins.cell 4;have q0:=HS.out.ob.cell 0;have q1:=HS.out.ob.cell 1;have q2:=HS.out.ob.cell 2;have q3:=HS.out.ob.cell 3))
  go_wp2_with (first | (refine zb zr zd rfl (.tmp 7) rfl (g+1+1) 0 rfl C (zf HS.out.st) HSZ.out ?_) | (refine za zd rfl (.tmp 8) (.tmp 296) rfl (g+1+1+1) 0 C rfl rfl (zi HS.out.re (by rw [HZS.out];decide)) HSZ.out H1.out ?_))
  exact bodyPost_ret (zh rfl _ _ (g+1+1+1) C rfl (HS.out.fin (HSZ.out.trans HZS.out.symm)).1 HSZ.out) rfl (StepD.of s HSs.out HC.out (q:=false) HR.out rfl (fun h=>by rw [HR.out] at h;cases h) (HS.out.fin (HSZ.out.trans HZS.out.symm)).2)
set_option maxHeartbeats 8000000 in
theorem rstep_24 {o:Ob} (ho:ObK o) {a b c d:Int} (hi:InsK o (24,a,b,c,d)) (own:Int) {s:VSt} (hs:StOk s) (hl:s.left=0) (ha:s.alt=false) {va vf vp vc:Value} (w:World) (hv:ObAt w va vf vp vc o) :
  Calls Tryz.prog 32 #[.agg #[va,vf,vp,vc],.int .i64 own,.agg #[.int .i64 24,.int .i64 a,.int .i64 b,.int .i64 c,.int .i64 d],.agg (stA s)] w (StepD o own (24,a,b,c,d) s w):=by
 obtain⟨A1,c1,rfl⟩:=CellsAt.form hv.atoms
 obtain⟨A2,cf,rfl⟩:=CellsAt.form hv.funs
 obtain⟨A3,cp,rfl⟩:=CellsAt.form hv.preds
 obtain⟨A4,c4,rfl⟩:=CellsAt.form hv.code
 have HV:=hD hv
 have HSs:=hD hs
 have HPA:=hD (fun W h=>zf1 (o:=o) (op:=24) (a:=a) (b:=b) (c:=c) (d:=d) (fun h=>hi.fa h) W (va:=.slice A1 o.atoms.length c1) (vf:=.slice A2 o.funs.length cf) (vp:=.slice A3 o.preds.length cp) (vc:=.slice A4 o.code.length c4) h)
 have HS0:=hD (SdW.start w #[.slice A1 o.atoms.length c1,.slice A2 o.funs.length cf,.slice A3 o.preds.length cp,.slice A4 o.code.length c4] #[.int .i64 24,.int .i64 a,.int .i64 b,.int .i64 c,.int .i64 d] (stA s) zeroA)
 have HZE:Hid (zeroA=#[.int .u32 0,.int .i64 0,.int .i64 0,.int .i64 0,.int .i64 0,.int .i64 0,.int .i64 0,.int .i64 0,.int .i64 0,.int .i64 0,.int .i64 0,.int .i64 0,.int .i64 0,.int .i64 0,.int .i64 0,.int .i64 0,.int .i64 0,.int .i64 0,.int .i64 0,.bool false,.bool false]):=hD rfl
 have HZS:Hid (zeroA.size=21):=hD rfl
 generalize zeroA=O at HS0 HZE HZS
 have HRR:=hD (ze1 (o:=o) (ar:=arityP o own) (op:=24) (a:=a) (b:=b) (c:=c) (d:=d) (s:=s) (by rw [ha];rfl) rfl hl)
 clear hv
 go_enter Tryz.func32,Tryz.ntmps32
 go_upto_region 1 with(fail)
 rw [← HZE.out]
 obtain⟨w1,hw1⟩:∃ w1,(((w.alloc (.cells #[.slice A1 o.atoms.length c1,.slice A2 o.funs.length cf,.slice A3 o.preds.length cp,.slice A4 o.code.length c4] 27)).alloc (.cells #[.int .i64 24,.int .i64 a,.int .i64 b,.int .i64 c,.int .i64 d] 54)).alloc (.cells (stA s) 95)).alloc (.cells O 95)=w1:=⟨_,rfl⟩
 obtain⟨g,hg⟩:∃ g,w.heap.size=g:=⟨_,rfl⟩
 rw [hw1] at HS0 ⊢
 rw [hg] at HS0 ⊢
 clear hw1 HZE hg
 have i0:=HS0.out.ins.cell 0
 have i1:=HS0.out.ins.cell 1
 have i2:=HS0.out.ins.cell 2
 go_quiet (fail)
 have HS:=hD (HS0.out.drewN nq)
 obtain⟨w2,hw2⟩:∃ w2,w1.drewN nq=w2:=⟨_,rfl⟩
 rw [hw2] at HS ⊢
 clear hw2 HS0 i0 i1 i2
 have i0:=HS.out.ins.cell 0
 have i1:=HS.out.ins.cell 1
 have i2:=HS.out.ins.cell 2
 have i3:=HS.out.ins.cell 3
 have i4:=HS.out.ins.cell 4
 have q0:=HS.out.ob.cell 0
 have q1:=HS.out.ob.cell 1
 have q2:=HS.out.ob.cell 2
 have q3:=HS.out.ob.cell 3
 have x0:=HS.out.st.cell 0
 rw [stA_x] at x0
 have x1:=HS.out.st.cell 1
 rw [zj1] at x1
 have x18:=HS.out.st.cell 18
 rw [zv HSs.out,hl] at x18
 have x19:=HS.out.st.cell 19
 rw [zg1 HSs.out,ha] at x19
 have x20:=HS.out.st.cell 20
 rw [za1 HSs.out] at x20
 go_upto_region 61 with(fail)
 obtain⟨hy0,hy1⟩:=hi.ya (by simp)
 simp only at hy0 hy1
 obtain⟨ak,rfl⟩:∃ ak:Nat,a=(ak:Int):=⟨a.toNat,by omega⟩
 have hak:ak<16:=by omega
 have xy:=HS.out.st.cell (2+ak)
 rw [stA_y hs ak hak] at xy
 have HT:=hD (fun w=>zn6 hs (16+(ak:Int)) (by omega) (by omega) w)
 have HR0:Hid (asksV o (arityP o own) (24,(ak:Int),b,c,d) s=(s.neck && mayV s (16+(ak:Int)))):=hD (by rw [HRR.out];rfl)
 generalize mayV s (16+(ak:Int))=q at HT HR0
 cases q with
 | false=>
  have HR:Hid (asksV o (arityP o own) (24,(ak:Int),b,c,d) s=false):=hD (by rw [HR0.out,Bool.and_false])
  have HSZ:=hD (zg HSs.out)
  go_upto_region 62 with(first | (refine zb zr zd rfl (.tmp 7) rfl (g+1+1) 0 rfl (stA s) (zf HS.out.st) HSZ.out ?_) | (go_at_call 64;refine(HT.out _).mono ?_;rintro e1 w5 ⟨rfl,hb5⟩;have HS:=hD (HS.out.up hb5);clear hb5;have i0:=HS.out.ins.cell 0;have i1:=HS.out.ins.cell 1;have i2:=HS.out.ins.cell 2;have i3:=HS.out.ins.cell 3;have i4:=HS.out.ins.cell 4;have q0:=HS.out.ob.cell 0;have q1:=HS.out.ob.cell 1;have q2:=HS.out.ob.cell 2;have q3:=HS.out.ob.cell 3))
  clear HSZ
  go_upto_region 68 with(fail)
  have HSZ:=hD (zg HSs.out)
  have H1:=hD (zp s)
  generalize hC:stA s=C at HS HSZ H1
  have HC:=hD hC
  clear hC
  go_upto_region 71 with(first | (go_at_call 70;refine(HPA.out _ (HV.out.below HS.out.below)).mono ?_;rintro e1 w5 ⟨rfl,hb5⟩;have HS:=hD (HS.out.up hb5);clear hb5;have i0:=HS.out.ins.cell 0;have i1:=HS.out.ins.cell 1;have i2:=HS.out.ins.cell 2;have i3:=HS.out.ins.cell 3;have i4:=HS.out.ins.cell 4;have q0:=HS.out.ob.cell 0;have q1:=HS.out.ob.cell 1;have q2:=HS.out.ob.cell 2;have q3:=HS.out.ob.cell 3))
  go_wp2_with (first | (refine zb zr zd rfl (.tmp 7) rfl (g+1+1) 0 rfl C (zf HS.out.st) HSZ.out ?_) | (refine za zd rfl (.tmp 8) (.tmp 296) rfl (g+1+1+1) 0 C rfl rfl (zi HS.out.re (by rw [HZS.out];decide)) HSZ.out H1.out ?_))
  exact bodyPost_ret (zh rfl _ _ (g+1+1+1) C rfl (HS.out.fin (HSZ.out.trans HZS.out.symm)).1 HSZ.out) rfl (StepD.of s HSs.out HC.out (q:=false) HR.out rfl (fun h=>by rw [HR.out] at h;cases h) (HS.out.fin (HSZ.out.trans HZS.out.symm)).2)
 | true=>
  obtain⟨nk,hnk⟩:∃ nk,s.neck=nk:=⟨_,rfl⟩
  rw [hnk] at HR0
  have HNK:=hD hnk
  clear hnk
  cases nk with
  | false=>
   have HR:Hid (asksV o (arityP o own) (24,(ak:Int),b,c,d) s=false):=hD HR0.out
   have HSZ:=hD (zg HSs.out)
   have H20:Hid ((stA s)[20]?=some (.bool false)):=hD (by rw [← HNK.out];exact za1 hs)
   go_upto_region 62 with(first | (refine zb zr zd rfl (.tmp 7) rfl (g+1+1) 0 rfl (stA s) (zf HS.out.st) HSZ.out ?_) | (go_at_call 64;refine(HT.out _).mono ?_;rintro e1 w5 ⟨rfl,hb5⟩;have HS:=hD (HS.out.up hb5);clear hb5;have i0:=HS.out.ins.cell 0;have i1:=HS.out.ins.cell 1;have i2:=HS.out.ins.cell 2;have i3:=HS.out.ins.cell 3;have i4:=HS.out.ins.cell 4;have q0:=HS.out.ob.cell 0;have q1:=HS.out.ob.cell 1;have q2:=HS.out.ob.cell 2;have q3:=HS.out.ob.cell 3;have x20:=HS.out.st.cell 20;rw [H20.out] at x20))
   clear HSZ
   go_upto_region 68 with(fail)
   have HSZ:=hD (zg HSs.out)
   have H1:=hD (zp s)
   generalize hC:stA s=C at HS HSZ H1
   have HC:=hD hC
   clear hC
   go_upto_region 71 with(first | (go_at_call 70;refine(HPA.out _ (HV.out.below HS.out.below)).mono ?_;rintro e1 w5 ⟨rfl,hb5⟩;have HS:=hD (HS.out.up hb5);clear hb5;have i0:=HS.out.ins.cell 0;have i1:=HS.out.ins.cell 1;have i2:=HS.out.ins.cell 2;have i3:=HS.out.ins.cell 3;have i4:=HS.out.ins.cell 4;have q0:=HS.out.ob.cell 0;have q1:=HS.out.ob.cell 1;have q2:=HS.out.ob.cell 2;have q3:=HS.out.ob.cell 3))
   go_wp2_with (first | (refine zb zr zd rfl (.tmp 7) rfl (g+1+1) 0 rfl C (zf HS.out.st) HSZ.out ?_) | (refine za zd rfl (.tmp 8) (.tmp 296) rfl (g+1+1+1) 0 C rfl rfl (zi HS.out.re (by rw [HZS.out];decide)) HSZ.out H1.out ?_))
   exact bodyPost_ret (zh rfl _ _ (g+1+1+1) C rfl (HS.out.fin (HSZ.out.trans HZS.out.symm)).1 HSZ.out) rfl (StepD.of s HSs.out HC.out (q:=false) HR.out rfl (fun h=>by rw [HR.out] at h;cases h) (HS.out.fin (HSZ.out.trans HZS.out.symm)).2)
  | true=>
   have HR:Hid (asksV o (arityP o own) (24,(ak:Int),b,c,d) s=true):=hD HR0.out
   have HSZ:=hD (zg HSs.out)
   have H20:Hid ((stA s)[20]?=some (.bool true)):=hD (by rw [← HNK.out];exact za1 hs)
   go_upto_region 62 with(first | (refine zb zr zd rfl (.tmp 7) rfl (g+1+1) 0 rfl (stA s) (zf HS.out.st) HSZ.out ?_) | (go_at_call 64;refine(HT.out _).mono ?_;rintro e1 w5 ⟨rfl,hb5⟩;have HS:=hD (HS.out.up hb5);clear hb5;have i0:=HS.out.ins.cell 0;have i1:=HS.out.ins.cell 1;have i2:=HS.out.ins.cell 2;have i3:=HS.out.ins.cell 3;have i4:=HS.out.ins.cell 4;have q0:=HS.out.ob.cell 0;have q1:=HS.out.ob.cell 1;have q2:=HS.out.ob.cell 2;have q3:=HS.out.ob.cell 3;have x20:=HS.out.st.cell 20;rw [H20.out] at x20))
   go_upto_region 63 with(fail)
   have xy:=HS.out.st.cell (2+ak)
   rw [stA_y hs ak hak] at xy
   have i0':(0:Int)≤(ak:Int):=by omega
   have i1':(ak:Int)<16:=by omega
   have zy:=HS.out.st.frozen (2+ak)
   have HS0:=HS
   have HS:=hD (HS.out.set (2+ak) (.int .i64 2))
   rw [← zl8 HSs.out ak hak 2] at HS
   have HSs:Hid (StOk { s with y:=s.y.set ak 2 }):=hD (⟨by show(s.y.set ak 2).length=16;rw [List.length_set];exact HSs.out.y,HSs.out.x⟩)
   go_upto_region 68 with(fail)
   have HSZ:=hD (zg HSs.out)
   have H1:=hD (zp { s with y:=s.y.set ak 2 })
   generalize hC:stA { s with y:=s.y.set ak 2 }=C at HS HSZ H1
   have HC:=hD hC
   clear hC
   go_upto_region 71 with(first | (go_at_call 70;refine(HPA.out _ (HV.out.below HS.out.below)).mono ?_;rintro e1 w5 ⟨rfl,hb5⟩;have HS:=hD (HS.out.up hb5);clear hb5;have i0:=HS.out.ins.cell 0;have i1:=HS.out.ins.cell 1;have i2:=HS.out.ins.cell 2;have i3:=HS.out.ins.cell 3;have i4:=HS.out.ins.cell 4;have q0:=HS.out.ob.cell 0;have q1:=HS.out.ob.cell 1;have q2:=HS.out.ob.cell 2;have q3:=HS.out.ob.cell 3))
   go_wp2_with (first | (refine zb zr zd rfl (.tmp 7) rfl (g+1+1) 0 rfl C (zf HS.out.st) HSZ.out ?_) | (refine za zd rfl (.tmp 8) (.tmp 296) rfl (g+1+1+1) 0 C rfl rfl (zi HS.out.re (by rw [HZS.out];decide)) HSZ.out H1.out ?_))
   exact bodyPost_ret (zh rfl _ _ (g+1+1+1) C rfl (HS.out.fin (HSZ.out.trans HZS.out.symm)).1 HSZ.out) rfl (StepD.of { s with y:=s.y.set ak 2 } HSs.out HC.out (q:=true) HR.out rfl (fun _=>rfl) (HS.out.fin (HSZ.out.trans HZS.out.symm)).2)
set_option maxHeartbeats 8000000 in
theorem rstep_16 {o:Ob} (ho:ObK o) {a b c d:Int} (hi:InsK o (16,a,b,c,d)) (own:Int) {s:VSt} (hs:StOk s) (hl:s.left=0) (ha:s.alt=false) {va vf vp vc:Value} (w:World) (hv:ObAt w va vf vp vc o) :
  Calls Tryz.prog 32 #[.agg #[va,vf,vp,vc],.int .i64 own,.agg #[.int .i64 16,.int .i64 a,.int .i64 b,.int .i64 c,.int .i64 d],.agg (stA s)] w (StepD o own (16,a,b,c,d) s w):=by
 obtain⟨A1,c1,rfl⟩:=CellsAt.form hv.atoms
 obtain⟨A2,cf,rfl⟩:=CellsAt.form hv.funs
 obtain⟨A3,cp,rfl⟩:=CellsAt.form hv.preds
 obtain⟨A4,c4,rfl⟩:=CellsAt.form hv.code
 have HV:=hD hv
 have HSs:=hD hs
 have HPA:=hD (fun W h=>zf1 (o:=o) (op:=16) (a:=a) (b:=b) (c:=c) (d:=d) (fun h=>hi.fa h) W (va:=.slice A1 o.atoms.length c1) (vf:=.slice A2 o.funs.length cf) (vp:=.slice A3 o.preds.length cp) (vc:=.slice A4 o.code.length c4) h)
 have HS0:=hD (SdW.start w #[.slice A1 o.atoms.length c1,.slice A2 o.funs.length cf,.slice A3 o.preds.length cp,.slice A4 o.code.length c4] #[.int .i64 16,.int .i64 a,.int .i64 b,.int .i64 c,.int .i64 d] (stA s) zeroA)
 have HZE:Hid (zeroA=#[.int .u32 0,.int .i64 0,.int .i64 0,.int .i64 0,.int .i64 0,.int .i64 0,.int .i64 0,.int .i64 0,.int .i64 0,.int .i64 0,.int .i64 0,.int .i64 0,.int .i64 0,.int .i64 0,.int .i64 0,.int .i64 0,.int .i64 0,.int .i64 0,.int .i64 0,.bool false,.bool false]):=hD rfl
 have HZS:Hid (zeroA.size=21):=hD rfl
 generalize zeroA=O at HS0 HZE HZS
 have HRR:=hD (ze1 (o:=o) (ar:=arityP o own) (op:=16) (a:=a) (b:=b) (c:=c) (d:=d) (s:=s) (by rw [ha];rfl) rfl hl)
 clear hv
 go_enter Tryz.func32,Tryz.ntmps32
 go_upto_region 1 with(fail)
 rw [← HZE.out]
 obtain⟨w1,hw1⟩:∃ w1,(((w.alloc (.cells #[.slice A1 o.atoms.length c1,.slice A2 o.funs.length cf,.slice A3 o.preds.length cp,.slice A4 o.code.length c4] 27)).alloc (.cells #[.int .i64 16,.int .i64 a,.int .i64 b,.int .i64 c,.int .i64 d] 54)).alloc (.cells (stA s) 95)).alloc (.cells O 95)=w1:=⟨_,rfl⟩
 obtain⟨g,hg⟩:∃ g,w.heap.size=g:=⟨_,rfl⟩
 rw [hw1] at HS0 ⊢
 rw [hg] at HS0 ⊢
 clear hw1 HZE hg
 have i0:=HS0.out.ins.cell 0
 have i1:=HS0.out.ins.cell 1
 have i2:=HS0.out.ins.cell 2
 go_quiet (fail)
 have HS:=hD (HS0.out.drewN nq)
 obtain⟨w2,hw2⟩:∃ w2,w1.drewN nq=w2:=⟨_,rfl⟩
 rw [hw2] at HS ⊢
 clear hw2 HS0 i0 i1 i2
 have i0:=HS.out.ins.cell 0
 have i1:=HS.out.ins.cell 1
 have i2:=HS.out.ins.cell 2
 have i3:=HS.out.ins.cell 3
 have i4:=HS.out.ins.cell 4
 have q0:=HS.out.ob.cell 0
 have q1:=HS.out.ob.cell 1
 have q2:=HS.out.ob.cell 2
 have q3:=HS.out.ob.cell 3
 have x0:=HS.out.st.cell 0
 rw [stA_x] at x0
 have x1:=HS.out.st.cell 1
 rw [zj1] at x1
 have x18:=HS.out.st.cell 18
 rw [zv HSs.out,hl] at x18
 have x19:=HS.out.st.cell 19
 rw [zg1 HSs.out,ha] at x19
 have x20:=HS.out.st.cell 20
 rw [za1 HSs.out] at x20
 go_upto_region 44 with(fail)
 have HR:Hid (asksV o (arityP o own) (16,a,b,c,d) s=decide (0≤s.env)):=hD (by rw [HRR.out];rfl)
 obtain⟨Z0,hZ0⟩:∃ Z0,zero16D=Z0:=⟨_,rfl⟩
 have HZ0E:Hid (Z0=#[.int .i64 0,.int .i64 0,.int .i64 0,.int .i64 0,.int .i64 0,.int .i64 0,.int .i64 0,.int .i64 0,.int .i64 0,.int .i64 0,.int .i64 0,.int .i64 0,.int .i64 0,.int .i64 0,.int .i64 0,.int .i64 0]):=hD hZ0.symm
 have HZ0I:Hid ((Tryz.prog.info? 56).map (·.size)=some Z0.size):=hD (by rw [← hZ0];exact zy14)
 have HZ01:Hid (Z0.all (·.oneCell')=true):=hD (by rw [← hZ0];exact zl16)
 have HZ0N:Hid (Z0.size=16):=hD (by rw [← hZ0];rfl)
 have HPZ:Hid (putL (stA { s with env:=-1 }) 2 Z0.toList=stA { { s with env:=-1 } with y:=yZero }):=hD (by rw [← hZ0];exact put_zeroD (s:={ s with env:=-1 }) ⟨HSs.out.y,HSs.out.x⟩)
 clear hZ0
 go_upto_region 45 with(fail)
 have z1:=HS.out.st.frozen 1
 have HS:=hD (HS.out.set 1 (.int .i64 (-1)))
 rw [← zd5 s (-1)] at HS
 have HSs:Hid (StOk { s with env:=-1 }):=hD ⟨HSs.out.y,HSs.out.x⟩
 have HSZ:=hD (zg HSs.out)
 go_upto_region 68 with(first | (refine wpList_store_mid rfl 56 (.tmp 192) (.tmp 190) rfl (g+1+1) 2 Z0 rfl (by rw [HZ0E.out];rfl) (zi HS.out.st (by rw [HZ0N.out,HSZ.out];decide)) HZ0I.out HZ01.out ?_))
 have HS:=hD (HS.out.cells 2 Z0.toList)
 rw [HPZ.out] at HS
 have HSs:Hid (StOk { { s with env:=-1 } with y:=yZero }):=hD ⟨rfl,HSs.out.x⟩
 clear HSZ
 have i0:=HS.out.ins.cell 0
 have i1:=HS.out.ins.cell 1
 have i2:=HS.out.ins.cell 2
 have i3:=HS.out.ins.cell 3
 have i4:=HS.out.ins.cell 4
 have q0:=HS.out.ob.cell 0
 have q1:=HS.out.ob.cell 1
 have q2:=HS.out.ob.cell 2
 have q3:=HS.out.ob.cell 3
 generalize s.env=en_ at HR x1
 generalize hwz:World.setCells _ (g+1+1) 2 Z0.toList=wz at HS i0 i1 i2 i3 i4 q0 q1 q2 q3 ⊢
 clear hwz x0 x18 x19 x20
 have HSZ:=hD (zg HSs.out)
 have H1:=hD (zp { { s with env:=-1 } with y:=yZero })
 generalize hC:stA { { s with env:=-1 } with y:=yZero }=C at HS HSZ H1
 have HC:=hD hC
 clear hC
 go_upto_region 71 with(first | (go_at_call 70;refine(HPA.out _ (HV.out.below HS.out.below)).mono ?_;rintro e1 w5 ⟨rfl,hb5⟩;have HS:=hD (HS.out.up hb5);clear hb5;have i0:=HS.out.ins.cell 0;have i1:=HS.out.ins.cell 1;have i2:=HS.out.ins.cell 2;have i3:=HS.out.ins.cell 3;have i4:=HS.out.ins.cell 4;have q0:=HS.out.ob.cell 0;have q1:=HS.out.ob.cell 1;have q2:=HS.out.ob.cell 2;have q3:=HS.out.ob.cell 3))
 go_wp2_with (first | (refine zb zr zd rfl (.tmp 7) rfl (g+1+1) 0 rfl C (zf HS.out.st) HSZ.out ?_) | (refine za zd rfl (.tmp 8) (.tmp 296) rfl (g+1+1+1) 0 C rfl rfl (zi HS.out.re (by rw [HZS.out];decide)) HSZ.out H1.out ?_))
 exact bodyPost_ret (zh rfl _ _ (g+1+1+1) C rfl (HS.out.fin (HSZ.out.trans HZS.out.symm)).1 HSZ.out) rfl (StepD.of { { s with env:=-1 } with y:=yZero } HSs.out HC.out (q:=decide (0≤en_)) HR.out rfl (fun _=>rfl) (HS.out.fin (HSZ.out.trans HZS.out.symm)).2)
end Go.Proofs.YtlmbiafloiompaaGreatDoor
