/-
 The document's step (layer 11),instruction by instruction: 26,5,13,14,11,10,1. Conditions: an object that may be,an instruction of it,no parts to come,another way where it is asked.
-/
import Derived.Test.YtlmbiafloiompaaGreatDoorJL21
import Derived.Test.YtlmbiafloiompaaGreatDoorJL13
import Derived.Shelf.Abstract
namespace Go.Proofs.YtlmbiafloiompaaGreatDoor
open Go Go.RowKit
set_option linter.unusedVariables false
set_option linter.unusedSimpArgs false
set_option maxRecDepth 100000
set_option maxHeartbeats 8000000 in
theorem rstep_26 {o:Ob} (ho:ObK o) {a b c d:Int} (hi:InsK o (26,a,b,c,d)) (own:Int) {s:VSt} (hs:StOk s) (hl:s.left=0) (ha:s.alt=false) {va vf vp vc:Value} (w:World) (hv:ObAt w va vf vp vc o) :
  Calls Tryz.prog 32 #[.agg #[va,vf,vp,vc],.int .i64 own,.agg #[.int .i64 26,.int .i64 a,.int .i64 b,.int .i64 c,.int .i64 d],.agg (stA s)] w (StepD o own (26,a,b,c,d) s w):=by
 obtain⟨A1,c1,rfl⟩:=CellsAt.form hv.atoms
 obtain⟨A2,cf,rfl⟩:=CellsAt.form hv.funs
 obtain⟨A3,cp,rfl⟩:=CellsAt.form hv.preds
 obtain⟨A4,c4,rfl⟩:=CellsAt.form hv.code
 have HV:=hD hv
 have HSs:=hD hs
 have HPA:=hD (fun W h=>zf1 (o:=o) (op:=26) (a:=a) (b:=b) (c:=c) (d:=d) (fun h=>hi.fa h) W (va:=.slice A1 o.atoms.length c1) (vf:=.slice A2 o.funs.length cf) (vp:=.slice A3 o.preds.length cp) (vc:=.slice A4 o.code.length c4) h)
 have HS0:=hD (SdW.start w #[.slice A1 o.atoms.length c1,.slice A2 o.funs.length cf,.slice A3 o.preds.length cp,.slice A4 o.code.length c4] #[.int .i64 26,.int .i64 a,.int .i64 b,.int .i64 c,.int .i64 d] (stA s) zeroA)
 have HZE:Hid (zeroA=#[.int .u32 0,.int .i64 0,.int .i64 0,.int .i64 0,.int .i64 0,.int .i64 0,.int .i64 0,.int .i64 0,.int .i64 0,.int .i64 0,.int .i64 0,.int .i64 0,.int .i64 0,.int .i64 0,.int .i64 0,.int .i64 0,.int .i64 0,.int .i64 0,.int .i64 0,.bool false,.bool false]):=hD rfl
 have HZS:Hid (zeroA.size=21):=hD rfl
 generalize zeroA=O at HS0 HZE HZS
 have HRR:=hD (ze1 (o:=o) (ar:=arityP o own) (op:=26) (a:=a) (b:=b) (c:=c) (d:=d) (s:=s) (by rw [ha];rfl) rfl hl)
 clear hv
 go_enter Tryz.func32,Tryz.ntmps32
 go_upto_region 1 with(fail)
 rw [← HZE.out]
 obtain⟨w1,hw1⟩:∃ w1,(((w.alloc (.cells #[.slice A1 o.atoms.length c1,.slice A2 o.funs.length cf,.slice A3 o.preds.length cp,.slice A4 o.code.length c4] 27)).alloc (.cells #[.int .i64 26,.int .i64 a,.int .i64 b,.int .i64 c,.int .i64 d] 54)).alloc (.cells (stA s) 95)).alloc (.cells O 95)=w1:=⟨_,rfl⟩
 obtain⟨g,hg⟩:∃ g,w.heap.size=g:=⟨_,rfl⟩
 rw [hw1] at HS0 ⊢
 rw [hg] at HS0 ⊢
 clear hw1 HZE hg
 have i0:=HS0.out.ins.cell 0
 have i1:=HS0.out.ins.cell 1
 have i2:=HS0.out.ins.cell 2
 go_quiet (fail)
 have HS:=hD (HS0.out.drewN nq)
 obtain⟨w2,hw2⟩:∃ w2,w1.drewN nq=w2:=⟨_,rfl⟩
 rw [hw2] at HS ⊢
 clear hw2 HS0 i0 i1 i2
 have i0:=HS.out.ins.cell 0
 have i1:=HS.out.ins.cell 1
 have i2:=HS.out.ins.cell 2
 have i3:=HS.out.ins.cell 3
 have i4:=HS.out.ins.cell 4
 have q0:=HS.out.ob.cell 0
 have q1:=HS.out.ob.cell 1
 have q2:=HS.out.ob.cell 2
 have q3:=HS.out.ob.cell 3
 have x0:=HS.out.st.cell 0
 rw [stA_x] at x0
 have x1:=HS.out.st.cell 1
 rw [zj1] at x1
 have x18:=HS.out.st.cell 18
 rw [zv HSs.out,hl] at x18
 have x19:=HS.out.st.cell 19
 rw [zg1 HSs.out,ha] at x19
 have x20:=HS.out.st.cell 20
 rw [za1 HSs.out] at x20
 go_upto_region 67 with(fail)
 have HSB:=hD (fun w=>za3 s.x 0 hs.x (by omega) w)
 have HR:Hid (asksV o (arityP o own) (26,a,b,c,d) s=s.x.testBit 0):=hD (by rw [HRR.out];rfl)
 generalize s.x.testBit 0=q at HSB HR
 go_upto_region 68 with(first | (go_at_call 67;refine(HSB.out _).mono ?_;rintro e1 w5 ⟨rfl,rfl⟩))
 have HSZ:=hD (zg HSs.out)
 have H1:=hD (zp s)
 generalize hC:stA s=C at HS HSZ H1
 have HC:=hD hC
 clear hC
 go_upto_region 71 with(first | (go_at_call 70;refine(HPA.out _ (HV.out.below HS.out.below)).mono ?_;rintro e1 w5 ⟨rfl,hb5⟩;have HS:=hD (HS.out.up hb5);clear hb5;have i0:=HS.out.ins.cell 0;have i1:=HS.out.ins.cell 1;have i2:=HS.out.ins.cell 2;have i3:=HS.out.ins.cell 3;have i4:=HS.out.ins.cell 4;have q0:=HS.out.ob.cell 0;have q1:=HS.out.ob.cell 1;have q2:=HS.out.ob.cell 2;have q3:=HS.out.ob.cell 3))
 go_wp2_with (first | (refine zb zr zd rfl (.tmp 7) rfl (g+1+1) 0 rfl C (zf HS.out.st) HSZ.out ?_) | (refine za zd rfl (.tmp 8) (.tmp 296) rfl (g+1+1+1) 0 C rfl rfl (zi HS.out.re (by rw [HZS.out];decide)) HSZ.out H1.out ?_))
 exact bodyPost_ret (zh rfl _ _ (g+1+1+1) C rfl (HS.out.fin (HSZ.out.trans HZS.out.symm)).1 HSZ.out) rfl (StepD.of s HSs.out HC.out (q:=q) HR.out rfl (fun _=>rfl) (HS.out.fin (HSZ.out.trans HZS.out.symm)).2)
set_option maxHeartbeats 8000000 in
theorem rstep_5 {o:Ob} (ho:ObK o) {a b c d:Int} (hi:InsK o (5,a,b,c,d)) (own:Int) {s:VSt} (hs:StOk s) (hl:s.left=0) (ha:s.alt=false) {va vf vp vc:Value} (w:World) (hv:ObAt w va vf vp vc o) :
  Calls Tryz.prog 32 #[.agg #[va,vf,vp,vc],.int .i64 own,.agg #[.int .i64 5,.int .i64 a,.int .i64 b,.int .i64 c,.int .i64 d],.agg (stA s)] w (StepD o own (5,a,b,c,d) s w):=by
 obtain⟨A1,c1,rfl⟩:=CellsAt.form hv.atoms
 obtain⟨A2,cf,rfl⟩:=CellsAt.form hv.funs
 obtain⟨A3,cp,rfl⟩:=CellsAt.form hv.preds
 obtain⟨A4,c4,rfl⟩:=CellsAt.form hv.code
 have HV:=hD hv
 have HSs:=hD hs
 have HPA:=hD (fun W h=>zf1 (o:=o) (op:=5) (a:=a) (b:=b) (c:=c) (d:=d) (fun h=>hi.fa h) W (va:=.slice A1 o.atoms.length c1) (vf:=.slice A2 o.funs.length cf) (vp:=.slice A3 o.preds.length cp) (vc:=.slice A4 o.code.length c4) h)
 have HS0:=hD (SdW.start w #[.slice A1 o.atoms.length c1,.slice A2 o.funs.length cf,.slice A3 o.preds.length cp,.slice A4 o.code.length c4] #[.int .i64 5,.int .i64 a,.int .i64 b,.int .i64 c,.int .i64 d] (stA s) zeroA)
 have HZE:Hid (zeroA=#[.int .u32 0,.int .i64 0,.int .i64 0,.int .i64 0,.int .i64 0,.int .i64 0,.int .i64 0,.int .i64 0,.int .i64 0,.int .i64 0,.int .i64 0,.int .i64 0,.int .i64 0,.int .i64 0,.int .i64 0,.int .i64 0,.int .i64 0,.int .i64 0,.int .i64 0,.bool false,.bool false]):=hD rfl
 have HZS:Hid (zeroA.size=21):=hD rfl
 generalize zeroA=O at HS0 HZE HZS
 have HRR:=hD (ze1 (o:=o) (ar:=arityP o own) (op:=5) (a:=a) (b:=b) (c:=c) (d:=d) (s:=s) (by rw [ha];rfl) rfl hl)
 clear hv
 go_enter Tryz.func32,Tryz.ntmps32
 go_upto_region 1 with(fail)
 rw [← HZE.out]
 obtain⟨w1,hw1⟩:∃ w1,(((w.alloc (.cells #[.slice A1 o.atoms.length c1,.slice A2 o.funs.length cf,.slice A3 o.preds.length cp,.slice A4 o.code.length c4] 27)).alloc (.cells #[.int .i64 5,.int .i64 a,.int .i64 b,.int .i64 c,.int .i64 d] 54)).alloc (.cells (stA s) 95)).alloc (.cells O 95)=w1:=⟨_,rfl⟩
 obtain⟨g,hg⟩:∃ g,w.heap.size=g:=⟨_,rfl⟩
 rw [hw1] at HS0 ⊢
 rw [hg] at HS0 ⊢
 clear hw1 HZE hg
 have i0:=HS0.out.ins.cell 0
 have i1:=HS0.out.ins.cell 1
 have i2:=HS0.out.ins.cell 2
 go_quiet (fail)
 have HS:=hD (HS0.out.drewN nq)
 obtain⟨w2,hw2⟩:∃ w2,w1.drewN nq=w2:=⟨_,rfl⟩
 rw [hw2] at HS ⊢
 clear hw2 HS0 i0 i1 i2
 have i0:=HS.out.ins.cell 0
 have i1:=HS.out.ins.cell 1
 have i2:=HS.out.ins.cell 2
 have i3:=HS.out.ins.cell 3
 have i4:=HS.out.ins.cell 4
 have q0:=HS.out.ob.cell 0
 have q1:=HS.out.ob.cell 1
 have q2:=HS.out.ob.cell 2
 have q3:=HS.out.ob.cell 3
 have x0:=HS.out.st.cell 0
 rw [stA_x] at x0
 have x1:=HS.out.st.cell 1
 rw [zj1] at x1
 have x18:=HS.out.st.cell 18
 rw [zv HSs.out,hl] at x18
 have x19:=HS.out.st.cell 19
 rw [zg1 HSs.out,ha] at x19
 have x20:=HS.out.st.cell 20
 rw [za1 HSs.out] at x20
 go_upto_region 26 with(fail)
 have HPF:Hid (partsV o 5 a=2):=hD rfl
 rw [HPF.out] at HPA
 obtain⟨ha0,ha1⟩:=hi.xa (by simp)
 simp only at ha0 ha1
 obtain⟨ak,rfl⟩:∃ ak:Nat,a=(ak:Int):=⟨a.toNat,by omega⟩
 have hak:ak<16:=by omega
 have HSB:=hD (fun w=>za3 s.x ak hs.x (by omega) w)
 have HR:Hid (asksV o (arityP o own) (5,(ak:Int),b,c,d) s=s.x.testBit ak):=hD (by rw [HRR.out];rfl)
 generalize s.x.testBit ak=q at HSB HR
 go_upto_region 68 with(first | (go_at_call 67;refine(HSB.out _).mono ?_;rintro e1 w5 ⟨rfl,rfl⟩))
 go_upto_region 70 with(first | (go_at_call 70;refine(HPA.out _ (HV.out.below HS.out.below)).mono ?_;rintro e1 w5 ⟨rfl,hb5⟩;have HS:=hD (HS.out.up hb5);clear hb5;have i0:=HS.out.ins.cell 0;have i1:=HS.out.ins.cell 1;have i2:=HS.out.ins.cell 2;have i3:=HS.out.ins.cell 3;have i4:=HS.out.ins.cell 4;have q0:=HS.out.ob.cell 0;have q1:=HS.out.ob.cell 1;have q2:=HS.out.ob.cell 2;have q3:=HS.out.ob.cell 3))
 have x18:=HS.out.st.cell 18
 rw [zv HSs.out] at x18
 have z18:=HS.out.st.frozen (18)
 have HS0:=HS
 have HS:=hD (HS.out.set (18) (.int .i64 2))
 rw [← zm1 HSs.out 2] at HS
 have HSs:Hid (StOk { s with left:=2 }):=hD (⟨HSs.out.y,HSs.out.x⟩)
 go_upto_region 71 with(fail)
 have HSZ:=hD (zg HSs.out)
 have H1:=hD (zp { s with left:=2 })
 generalize hC:stA { s with left:=2 }=C at HS HSZ H1
 have HC:=hD hC
 clear hC
 go_wp2_with (first | (refine zb zr zd rfl (.tmp 7) rfl (g+1+1) 0 rfl C (zf HS.out.st) HSZ.out ?_) | (refine za zd rfl (.tmp 8) (.tmp 296) rfl (g+1+1+1) 0 C rfl rfl (zi HS.out.re (by rw [HZS.out];decide)) HSZ.out H1.out ?_))
 exact bodyPost_ret (zh rfl _ _ (g+1+1+1) C rfl (HS.out.fin (HSZ.out.trans HZS.out.symm)).1 HSZ.out) rfl (StepD.of { s with left:=2 } HSs.out HC.out (q:=q) HR.out rfl (fun _=>rfl) (HS.out.fin (HSZ.out.trans HZS.out.symm)).2)
set_option maxHeartbeats 8000000 in
theorem rstep_13 {o:Ob} (ho:ObK o) {a b c d:Int} (hi:InsK o (13,a,b,c,d)) (own:Int) {s:VSt} (hs:StOk s) (hl:s.left=0) (ha:s.alt=false) {va vf vp vc:Value} (w:World) (hv:ObAt w va vf vp vc o) :
  Calls Tryz.prog 32 #[.agg #[va,vf,vp,vc],.int .i64 own,.agg #[.int .i64 13,.int .i64 a,.int .i64 b,.int .i64 c,.int .i64 d],.agg (stA s)] w (StepD o own (13,a,b,c,d) s w):=by
 obtain⟨A1,c1,rfl⟩:=CellsAt.form hv.atoms
 obtain⟨A2,cf,rfl⟩:=CellsAt.form hv.funs
 obtain⟨A3,cp,rfl⟩:=CellsAt.form hv.preds
 obtain⟨A4,c4,rfl⟩:=CellsAt.form hv.code
 have HV:=hD hv
 have HSs:=hD hs
 have HPA:=hD (fun W h=>zf1 (o:=o) (op:=13) (a:=a) (b:=b) (c:=c) (d:=d) (fun h=>hi.fa h) W (va:=.slice A1 o.atoms.length c1) (vf:=.slice A2 o.funs.length cf) (vp:=.slice A3 o.preds.length cp) (vc:=.slice A4 o.code.length c4) h)
 have HS0:=hD (SdW.start w #[.slice A1 o.atoms.length c1,.slice A2 o.funs.length cf,.slice A3 o.preds.length cp,.slice A4 o.code.length c4] #[.int .i64 13,.int .i64 a,.int .i64 b,.int .i64 c,.int .i64 d] (stA s) zeroA)
 have HZE:Hid (zeroA=#[.int .u32 0,.int .i64 0,.int .i64 0,.int .i64 0,.int .i64 0,.int .i64 0,.int .i64 0,.int .i64 0,.int .i64 0,.int .i64 0,.int .i64 0,.int .i64 0,.int .i64 0,.int .i64 0,.int .i64 0,.int .i64 0,.int .i64 0,.int .i64 0,.int .i64 0,.bool false,.bool false]):=hD rfl
 have HZS:Hid (zeroA.size=21):=hD rfl
 generalize zeroA=O at HS0 HZE HZS
 have HRR:=hD (ze1 (o:=o) (ar:=arityP o own) (op:=13) (a:=a) (b:=b) (c:=c) (d:=d) (s:=s) (by rw [ha];rfl) rfl hl)
 clear hv
 go_enter Tryz.func32,Tryz.ntmps32
 go_upto_region 1 with(fail)
 rw [← HZE.out]
 obtain⟨w1,hw1⟩:∃ w1,(((w.alloc (.cells #[.slice A1 o.atoms.length c1,.slice A2 o.funs.length cf,.slice A3 o.preds.length cp,.slice A4 o.code.length c4] 27)).alloc (.cells #[.int .i64 13,.int .i64 a,.int .i64 b,.int .i64 c,.int .i64 d] 54)).alloc (.cells (stA s) 95)).alloc (.cells O 95)=w1:=⟨_,rfl⟩
 obtain⟨g,hg⟩:∃ g,w.heap.size=g:=⟨_,rfl⟩
 rw [hw1] at HS0 ⊢
 rw [hg] at HS0 ⊢
 clear hw1 HZE hg
 have i0:=HS0.out.ins.cell 0
 have i1:=HS0.out.ins.cell 1
 have i2:=HS0.out.ins.cell 2
 go_quiet (fail)
 have HS:=hD (HS0.out.drewN nq)
 obtain⟨w2,hw2⟩:∃ w2,w1.drewN nq=w2:=⟨_,rfl⟩
 rw [hw2] at HS ⊢
 clear hw2 HS0 i0 i1 i2
 have i0:=HS.out.ins.cell 0
 have i1:=HS.out.ins.cell 1
 have i2:=HS.out.ins.cell 2
 have i3:=HS.out.ins.cell 3
 have i4:=HS.out.ins.cell 4
 have q0:=HS.out.ob.cell 0
 have q1:=HS.out.ob.cell 1
 have q2:=HS.out.ob.cell 2
 have q3:=HS.out.ob.cell 3
 have x0:=HS.out.st.cell 0
 rw [stA_x] at x0
 have x1:=HS.out.st.cell 1
 rw [zj1] at x1
 have x18:=HS.out.st.cell 18
 rw [zv HSs.out,hl] at x18
 have x19:=HS.out.st.cell 19
 rw [zg1 HSs.out,ha] at x19
 have x20:=HS.out.st.cell 20
 rw [za1 HSs.out] at x20
 go_upto_region 37 with(fail)
 have HR:Hid (asksV o (arityP o own) (13,a,b,c,d) s=true):=hD (by rw [HRR.out];rfl)
 obtain⟨hb0,hb1⟩:=hi.xb (by simp)
 simp only at hb0 hb1
 obtain⟨bk,rfl⟩:∃ bk:Nat,b=(bk:Int):=⟨b.toNat,by omega⟩
 have hbk:bk<16:=by omega
 obtain⟨hf0,hf1⟩:=hi.fa (by simp)
 simp only at hf0 hf1
 have har:=zt10 ho a hf0 hf1
 have HPF:Hid (partsV o 13 a=arityF o a):=hD (if_pos (by simp))
 rw [HPF.out] at HPA
 generalize hav:arityF o a=av at HPA har
 have HAV:=hD hav
 clear hav
 have HW:=hD (fun w=>zk3 s.x bk HSs.out.x (by omega) w)
 have x0:=HS.out.st.cell 0
 rw [stA_x] at x0
 have z0:=HS.out.st.frozen 0
 go_upto_region 68 with(first | (go_at_call 68;refine(HW.out _).mono ?_;rintro e1 w5 ⟨rfl,rfl⟩))
 have HS:=hD (HS.out.set 0 (.int .u32 ((s.x ||| 2 ^ bk:Nat):Int)))
 rw [← zr5 s bk] at HS
 have HSs:Hid (StOk (regV s (bk:Int))):=hD (HSs.out.reg (by omega) (by omega))
 go_upto_region 70 with(first | (go_at_call 70;refine(HPA.out _ (HV.out.below HS.out.below)).mono ?_;rintro e1 w5 ⟨rfl,hb5⟩;have HS:=hD (HS.out.up hb5);clear hb5;have i0:=HS.out.ins.cell 0;have i1:=HS.out.ins.cell 1;have i2:=HS.out.ins.cell 2;have i3:=HS.out.ins.cell 3;have i4:=HS.out.ins.cell 4;have q0:=HS.out.ob.cell 0;have q1:=HS.out.ob.cell 1;have q2:=HS.out.ob.cell 2;have q3:=HS.out.ob.cell 3))
 have x18:=HS.out.st.cell 18
 rw [zv HSs.out] at x18
 have z18:=HS.out.st.frozen (18)
 have HS0:=HS
 have HS:=hD (HS.out.set (18) (.int .i64 av))
 rw [← zm1 HSs.out av] at HS
 have HSs:Hid (StOk { (regV s (bk:Int)) with left:=av }):=hD (⟨HSs.out.y,HSs.out.x⟩)
 go_upto_region 71 with(fail)
 have HSZ:=hD (zg HSs.out)
 have H1:=hD (zp { (regV s (bk:Int)) with left:=av })
 generalize hC:stA { (regV s (bk:Int)) with left:=av }=C at HS HSZ H1
 have HC:=hD hC
 clear hC
 go_wp2_with (first | (refine zb zr zd rfl (.tmp 7) rfl (g+1+1) 0 rfl C (zf HS.out.st) HSZ.out ?_) | (refine za zd rfl (.tmp 8) (.tmp 296) rfl (g+1+1+1) 0 C rfl rfl (zi HS.out.re (by rw [HZS.out];decide)) HSZ.out H1.out ?_))
 exact bodyPost_ret (zh rfl _ _ (g+1+1+1) C rfl (HS.out.fin (HSZ.out.trans HZS.out.symm)).1 HSZ.out) rfl (StepD.of { (regV s (bk:Int)) with left:=av } HSs.out HC.out (q:=true) HR.out rfl (fun _=>by rw [← HAV.out];rfl) (HS.out.fin (HSZ.out.trans HZS.out.symm)).2)
set_option maxHeartbeats 8000000 in
theorem rstep_14 {o:Ob} (ho:ObK o) {a b c d:Int} (hi:InsK o (14,a,b,c,d)) (own:Int) {s:VSt} (hs:StOk s) (hl:s.left=0) (ha:s.alt=false) {va vf vp vc:Value} (w:World) (hv:ObAt w va vf vp vc o) :
  Calls Tryz.prog 32 #[.agg #[va,vf,vp,vc],.int .i64 own,.agg #[.int .i64 14,.int .i64 a,.int .i64 b,.int .i64 c,.int .i64 d],.agg (stA s)] w (StepD o own (14,a,b,c,d) s w):=by
 obtain⟨A1,c1,rfl⟩:=CellsAt.form hv.atoms
 obtain⟨A2,cf,rfl⟩:=CellsAt.form hv.funs
 obtain⟨A3,cp,rfl⟩:=CellsAt.form hv.preds
 obtain⟨A4,c4,rfl⟩:=CellsAt.form hv.code
 have HV:=hD hv
 have HSs:=hD hs
 have HPA:=hD (fun W h=>zf1 (o:=o) (op:=14) (a:=a) (b:=b) (c:=c) (d:=d) (fun h=>hi.fa h) W (va:=.slice A1 o.atoms.length c1) (vf:=.slice A2 o.funs.length cf) (vp:=.slice A3 o.preds.length cp) (vc:=.slice A4 o.code.length c4) h)
 have HS0:=hD (SdW.start w #[.slice A1 o.atoms.length c1,.slice A2 o.funs.length cf,.slice A3 o.preds.length cp,.slice A4 o.code.length c4] #[.int .i64 14,.int .i64 a,.int .i64 b,.int .i64 c,.int .i64 d] (stA s) zeroA)
 have HZE:Hid (zeroA=#[.int .u32 0,.int .i64 0,.int .i64 0,.int .i64 0,.int .i64 0,.int .i64 0,.int .i64 0,.int .i64 0,.int .i64 0,.int .i64 0,.int .i64 0,.int .i64 0,.int .i64 0,.int .i64 0,.int .i64 0,.int .i64 0,.int .i64 0,.int .i64 0,.int .i64 0,.bool false,.bool false]):=hD rfl
 have HZS:Hid (zeroA.size=21):=hD rfl
 generalize zeroA=O at HS0 HZE HZS
 have HRR:=hD (ze1 (o:=o) (ar:=arityP o own) (op:=14) (a:=a) (b:=b) (c:=c) (d:=d) (s:=s) (by rw [ha];rfl) rfl hl)
 clear hv
 go_enter Tryz.func32,Tryz.ntmps32
 go_upto_region 1 with(fail)
 rw [← HZE.out]
 obtain⟨w1,hw1⟩:∃ w1,(((w.alloc (.cells #[.slice A1 o.atoms.length c1,.slice A2 o.funs.length cf,.slice A3 o.preds.length cp,.slice A4 o.code.length c4] 27)).alloc (.cells #[.int .i64 14,.int .i64 a,.int .i64 b,.int .i64 c,.int .i64 d] 54)).alloc (.cells (stA s) 95)).alloc (.cells O 95)=w1:=⟨_,rfl⟩
 obtain⟨g,hg⟩:∃ g,w.heap.size=g:=⟨_,rfl⟩
 rw [hw1] at HS0 ⊢
 rw [hg] at HS0 ⊢
 clear hw1 HZE hg
 have i0:=HS0.out.ins.cell 0
 have i1:=HS0.out.ins.cell 1
 have i2:=HS0.out.ins.cell 2
 go_quiet (fail)
 have HS:=hD (HS0.out.drewN nq)
 obtain⟨w2,hw2⟩:∃ w2,w1.drewN nq=w2:=⟨_,rfl⟩
 rw [hw2] at HS ⊢
 clear hw2 HS0 i0 i1 i2
 have i0:=HS.out.ins.cell 0
 have i1:=HS.out.ins.cell 1
 have i2:=HS.out.ins.cell 2
 have i3:=HS.out.ins.cell 3
 have i4:=HS.out.ins.cell 4
 have q0:=HS.out.ob.cell 0
 have q1:=HS.out.ob.cell 1
 have q2:=HS.out.ob.cell 2
 have q3:=HS.out.ob.cell 3
 have x0:=HS.out.st.cell 0
 rw [stA_x] at x0
 have x1:=HS.out.st.cell 1
 rw [zj1] at x1
 have x18:=HS.out.st.cell 18
 rw [zv HSs.out,hl] at x18
 have x19:=HS.out.st.cell 19
 rw [zg1 HSs.out,ha] at x19
 have x20:=HS.out.st.cell 20
 rw [za1 HSs.out] at x20
 go_upto_region 39 with(fail)
 have HPF:Hid (partsV o 14 a=2):=hD rfl
 rw [HPF.out] at HPA
 have HR:Hid (asksV o (arityP o own) (14,a,b,c,d) s=true):=hD (by rw [HRR.out];rfl)
 obtain⟨ha0,ha1⟩:=hi.xa (by simp)
 simp only at ha0 ha1
 obtain⟨ak,rfl⟩:∃ ak:Nat,a=(ak:Int):=⟨a.toNat,by omega⟩
 have hak:ak<16:=by omega
 have HW:=hD (fun w=>zk3 s.x ak HSs.out.x (by omega) w)
 have x0:=HS.out.st.cell 0
 rw [stA_x] at x0
 have z0:=HS.out.st.frozen 0
 go_upto_region 68 with(first | (go_at_call 68;refine(HW.out _).mono ?_;rintro e1 w5 ⟨rfl,rfl⟩))
 have HS:=hD (HS.out.set 0 (.int .u32 ((s.x ||| 2 ^ ak:Nat):Int)))
 rw [← zr5 s ak] at HS
 have HSs:Hid (StOk (regV s (ak:Int))):=hD (HSs.out.reg (by omega) (by omega))
 go_upto_region 70 with(first | (go_at_call 70;refine(HPA.out _ (HV.out.below HS.out.below)).mono ?_;rintro e1 w5 ⟨rfl,hb5⟩;have HS:=hD (HS.out.up hb5);clear hb5;have i0:=HS.out.ins.cell 0;have i1:=HS.out.ins.cell 1;have i2:=HS.out.ins.cell 2;have i3:=HS.out.ins.cell 3;have i4:=HS.out.ins.cell 4;have q0:=HS.out.ob.cell 0;have q1:=HS.out.ob.cell 1;have q2:=HS.out.ob.cell 2;have q3:=HS.out.ob.cell 3))
 have x18:=HS.out.st.cell 18
 rw [zv HSs.out] at x18
 have z18:=HS.out.st.frozen (18)
 have HS0:=HS
 have HS:=hD (HS.out.set (18) (.int .i64 2))
 rw [← zm1 HSs.out 2] at HS
 have HSs:Hid (StOk { (regV s (ak:Int)) with left:=2 }):=hD (⟨HSs.out.y,HSs.out.x⟩)
 go_upto_region 71 with(fail)
 have HSZ:=hD (zg HSs.out)
 have H1:=hD (zp { (regV s (ak:Int)) with left:=2 })
 generalize hC:stA { (regV s (ak:Int)) with left:=2 }=C at HS HSZ H1
 have HC:=hD hC
 clear hC
 go_wp2_with (first | (refine zb zr zd rfl (.tmp 7) rfl (g+1+1) 0 rfl C (zf HS.out.st) HSZ.out ?_) | (refine za zd rfl (.tmp 8) (.tmp 296) rfl (g+1+1+1) 0 C rfl rfl (zi HS.out.re (by rw [HZS.out];decide)) HSZ.out H1.out ?_))
 exact bodyPost_ret (zh rfl _ _ (g+1+1+1) C rfl (HS.out.fin (HSZ.out.trans HZS.out.symm)).1 HSZ.out) rfl (StepD.of { (regV s (ak:Int)) with left:=2 } HSs.out HC.out (q:=true) HR.out rfl (fun _=>rfl) (HS.out.fin (HSZ.out.trans HZS.out.symm)).2)
set_option maxHeartbeats 8000000 in
theorem rstep_11 {o:Ob} (ho:ObK o) {a b c d:Int} (hi:InsK o (11,a,b,c,d)) (own:Int) {s:VSt} (hs:StOk s) (hl:s.left=0) (ha:s.alt=false) {va vf vp vc:Value} (w:World) (hv:ObAt w va vf vp vc o) :
  Calls Tryz.prog 32 #[.agg #[va,vf,vp,vc],.int .i64 own,.agg #[.int .i64 11,.int .i64 a,.int .i64 b,.int .i64 c,.int .i64 d],.agg (stA s)] w (StepD o own (11,a,b,c,d) s w):=by
 obtain⟨A1,c1,rfl⟩:=CellsAt.form hv.atoms
 obtain⟨A2,cf,rfl⟩:=CellsAt.form hv.funs
 obtain⟨A3,cp,rfl⟩:=CellsAt.form hv.preds
 obtain⟨A4,c4,rfl⟩:=CellsAt.form hv.code
 have HV:=hD hv
 have HSs:=hD hs
 have HPA:=hD (fun W h=>zf1 (o:=o) (op:=11) (a:=a) (b:=b) (c:=c) (d:=d) (fun h=>hi.fa h) W (va:=.slice A1 o.atoms.length c1) (vf:=.slice A2 o.funs.length cf) (vp:=.slice A3 o.preds.length cp) (vc:=.slice A4 o.code.length c4) h)
 have HS0:=hD (SdW.start w #[.slice A1 o.atoms.length c1,.slice A2 o.funs.length cf,.slice A3 o.preds.length cp,.slice A4 o.code.length c4] #[.int .i64 11,.int .i64 a,.int .i64 b,.int .i64 c,.int .i64 d] (stA s) zeroA)
 have HZE:Hid (zeroA=#[.int .u32 0,.int .i64 0,.int .i64 0,.int .i64 0,.int .i64 0,.int .i64 0,.int .i64 0,.int .i64 0,.int .i64 0,.int .i64 0,.int .i64 0,.int .i64 0,.int .i64 0,.int .i64 0,.int .i64 0,.int .i64 0,.int .i64 0,.int .i64 0,.int .i64 0,.bool false,.bool false]):=hD rfl
 have HZS:Hid (zeroA.size=21):=hD rfl
 generalize zeroA=O at HS0 HZE HZS
 have HRR:=hD (ze1 (o:=o) (ar:=arityP o own) (op:=11) (a:=a) (b:=b) (c:=c) (d:=d) (s:=s) (by rw [ha];rfl) rfl hl)
 clear hv
 go_enter Tryz.func32,Tryz.ntmps32
 go_upto_region 1 with(fail)
 rw [← HZE.out]
 obtain⟨w1,hw1⟩:∃ w1,(((w.alloc (.cells #[.slice A1 o.atoms.length c1,.slice A2 o.funs.length cf,.slice A3 o.preds.length cp,.slice A4 o.code.length c4] 27)).alloc (.cells #[.int .i64 11,.int .i64 a,.int .i64 b,.int .i64 c,.int .i64 d] 54)).alloc (.cells (stA s) 95)).alloc (.cells O 95)=w1:=⟨_,rfl⟩
 obtain⟨g,hg⟩:∃ g,w.heap.size=g:=⟨_,rfl⟩
 rw [hw1] at HS0 ⊢
 rw [hg] at HS0 ⊢
 clear hw1 HZE hg
 have i0:=HS0.out.ins.cell 0
 have i1:=HS0.out.ins.cell 1
 have i2:=HS0.out.ins.cell 2
 go_quiet (fail)
 have HS:=hD (HS0.out.drewN nq)
 obtain⟨w2,hw2⟩:∃ w2,w1.drewN nq=w2:=⟨_,rfl⟩
 rw [hw2] at HS ⊢
 clear hw2 HS0 i0 i1 i2
 have i0:=HS.out.ins.cell 0
 have i1:=HS.out.ins.cell 1
 have i2:=HS.out.ins.cell 2
 have i3:=HS.out.ins.cell 3
 have i4:=HS.out.ins.cell 4
 have q0:=HS.out.ob.cell 0
 have q1:=HS.out.ob.cell 1
 have q2:=HS.out.ob.cell 2
 have q3:=HS.out.ob.cell 3
 have x0:=HS.out.st.cell 0
 rw [stA_x] at x0
 have x1:=HS.out.st.cell 1
 rw [zj1] at x1
 have x18:=HS.out.st.cell 18
 rw [zv HSs.out,hl] at x18
 have x19:=HS.out.st.cell 19
 rw [zg1 HSs.out,ha] at x19
 have x20:=HS.out.st.cell 20
 rw [za1 HSs.out] at x20
 go_upto_region 33 with(fail)
 have HR:Hid (asksV o (arityP o own) (11,a,b,c,d) s=termV s a):=hD (by rw [HRR.out];rfl)
 obtain⟨hb0,hb1⟩:=hi.xb (by simp)
 simp only at hb0 hb1
 obtain⟨bk,rfl⟩:∃ bk:Nat,b=(bk:Int):=⟨b.toNat,by omega⟩
 have hbk:bk<16:=by omega
 obtain⟨hr0,hr1⟩:=hi.rg (by simp)
 simp only at hr0 hr1
 have HT:=hD (fun w=>zq5 hs a hr0 hr1 w)
 generalize termV s a=q at HT HR
 have HSZ:=hD (zg HSs.out)
 go_upto_region 34 with(first | (refine zb zr zd rfl (.tmp 7) rfl (g+1+1) 0 rfl (stA s) (zf HS.out.st) HSZ.out ?_) | (go_at_call 65;refine(HT.out _).mono ?_;rintro e1 w5 ⟨rfl,hb5⟩;have HS:=hD (HS.out.up hb5);clear hb5;have i0:=HS.out.ins.cell 0;have i1:=HS.out.ins.cell 1;have i2:=HS.out.ins.cell 2;have i3:=HS.out.ins.cell 3;have i4:=HS.out.ins.cell 4;have q0:=HS.out.ob.cell 0;have q1:=HS.out.ob.cell 1;have q2:=HS.out.ob.cell 2;have q3:=HS.out.ob.cell 3;have x0:=HS.out.st.cell 0;rw [stA_x] at x0))
 have HW:=hD (fun w=>zk3 s.x bk HSs.out.x (by omega) w)
 have x0:=HS.out.st.cell 0
 rw [stA_x] at x0
 have z0:=HS.out.st.frozen 0
 go_upto_region 68 with(first | (go_at_call 68;refine(HW.out _).mono ?_;rintro e1 w5 ⟨rfl,rfl⟩))
 have HS:=hD (HS.out.set 0 (.int .u32 ((s.x ||| 2 ^ bk:Nat):Int)))
 rw [← zr5 s bk] at HS
 have HSs:Hid (StOk (regV s (bk:Int))):=hD (HSs.out.reg (by omega) (by omega))
 have HSZ:=hD (zg HSs.out)
 have H1:=hD (zp (regV s (bk:Int)))
 generalize hC:stA (regV s (bk:Int))=C at HS HSZ H1
 have HC:=hD hC
 clear hC
 go_upto_region 71 with(first | (go_at_call 70;refine(HPA.out _ (HV.out.below HS.out.below)).mono ?_;rintro e1 w5 ⟨rfl,hb5⟩;have HS:=hD (HS.out.up hb5);clear hb5;have i0:=HS.out.ins.cell 0;have i1:=HS.out.ins.cell 1;have i2:=HS.out.ins.cell 2;have i3:=HS.out.ins.cell 3;have i4:=HS.out.ins.cell 4;have q0:=HS.out.ob.cell 0;have q1:=HS.out.ob.cell 1;have q2:=HS.out.ob.cell 2;have q3:=HS.out.ob.cell 3))
 go_wp2_with (first | (refine zb zr zd rfl (.tmp 7) rfl (g+1+1) 0 rfl C (zf HS.out.st) HSZ.out ?_) | (refine za zd rfl (.tmp 8) (.tmp 296) rfl (g+1+1+1) 0 C rfl rfl (zi HS.out.re (by rw [HZS.out];decide)) HSZ.out H1.out ?_))
 exact bodyPost_ret (zh rfl _ _ (g+1+1+1) C rfl (HS.out.fin (HSZ.out.trans HZS.out.symm)).1 HSZ.out) rfl (StepD.of (regV s (bk:Int)) HSs.out HC.out (q:=q) HR.out rfl (fun _=>rfl) (HS.out.fin (HSZ.out.trans HZS.out.symm)).2)
set_option maxHeartbeats 8000000 in
theorem rstep_10 {o:Ob} (ho:ObK o) {a b c d:Int} (hi:InsK o (10,a,b,c,d)) (own:Int) {s:VSt} (hs:StOk s) (hl:s.left=0) (ha:s.alt=false) {va vf vp vc:Value} (w:World) (hv:ObAt w va vf vp vc o) :
  Calls Tryz.prog 32 #[.agg #[va,vf,vp,vc],.int .i64 own,.agg #[.int .i64 10,.int .i64 a,.int .i64 b,.int .i64 c,.int .i64 d],.agg (stA s)] w (StepD o own (10,a,b,c,d) s w):=by
 obtain⟨A1,c1,rfl⟩:=CellsAt.form hv.atoms
 obtain⟨A2,cf,rfl⟩:=CellsAt.form hv.funs
 obtain⟨A3,cp,rfl⟩:=CellsAt.form hv.preds
 obtain⟨A4,c4,rfl⟩:=CellsAt.form hv.code
 have HV:=hD hv
 have HSs:=hD hs
 have HPA:=hD (fun W h=>zf1 (o:=o) (op:=10) (a:=a) (b:=b) (c:=c) (d:=d) (fun h=>hi.fa h) W (va:=.slice A1 o.atoms.length c1) (vf:=.slice A2 o.funs.length cf) (vp:=.slice A3 o.preds.length cp) (vc:=.slice A4 o.code.length c4) h)
 have HS0:=hD (SdW.start w #[.slice A1 o.atoms.length c1,.slice A2 o.funs.length cf,.slice A3 o.preds.length cp,.slice A4 o.code.length c4] #[.int .i64 10,.int .i64 a,.int .i64 b,.int .i64 c,.int .i64 d] (stA s) zeroA)
 have HZE:Hid (zeroA=#[.int .u32 0,.int .i64 0,.int .i64 0,.int .i64 0,.int .i64 0,.int .i64 0,.int .i64 0,.int .i64 0,.int .i64 0,.int .i64 0,.int .i64 0,.int .i64 0,.int .i64 0,.int .i64 0,.int .i64 0,.int .i64 0,.int .i64 0,.int .i64 0,.int .i64 0,.bool false,.bool false]):=hD rfl
 have HZS:Hid (zeroA.size=21):=hD rfl
 generalize zeroA=O at HS0 HZE HZS
 have HRR:=hD (ze1 (o:=o) (ar:=arityP o own) (op:=10) (a:=a) (b:=b) (c:=c) (d:=d) (s:=s) (by rw [ha];rfl) rfl hl)
 clear hv
 go_enter Tryz.func32,Tryz.ntmps32
 go_upto_region 1 with(fail)
 rw [← HZE.out]
 obtain⟨w1,hw1⟩:∃ w1,(((w.alloc (.cells #[.slice A1 o.atoms.length c1,.slice A2 o.funs.length cf,.slice A3 o.preds.length cp,.slice A4 o.code.length c4] 27)).alloc (.cells #[.int .i64 10,.int .i64 a,.int .i64 b,.int .i64 c,.int .i64 d] 54)).alloc (.cells (stA s) 95)).alloc (.cells O 95)=w1:=⟨_,rfl⟩
 obtain⟨g,hg⟩:∃ g,w.heap.size=g:=⟨_,rfl⟩
 rw [hw1] at HS0 ⊢
 rw [hg] at HS0 ⊢
 clear hw1 HZE hg
 have i0:=HS0.out.ins.cell 0
 have i1:=HS0.out.ins.cell 1
 have i2:=HS0.out.ins.cell 2
 go_quiet (fail)
 have HS:=hD (HS0.out.drewN nq)
 obtain⟨w2,hw2⟩:∃ w2,w1.drewN nq=w2:=⟨_,rfl⟩
 rw [hw2] at HS ⊢
 clear hw2 HS0 i0 i1 i2
 have i0:=HS.out.ins.cell 0
 have i1:=HS.out.ins.cell 1
 have i2:=HS.out.ins.cell 2
 have i3:=HS.out.ins.cell 3
 have i4:=HS.out.ins.cell 4
 have q0:=HS.out.ob.cell 0
 have q1:=HS.out.ob.cell 1
 have q2:=HS.out.ob.cell 2
 have q3:=HS.out.ob.cell 3
 have x0:=HS.out.st.cell 0
 rw [stA_x] at x0
 have x1:=HS.out.st.cell 1
 rw [zj1] at x1
 have x18:=HS.out.st.cell 18
 rw [zv HSs.out,hl] at x18
 have x19:=HS.out.st.cell 19
 rw [zg1 HSs.out,ha] at x19
 have x20:=HS.out.st.cell 20
 rw [za1 HSs.out] at x20
 go_upto_region 28 with(fail)
 have HR:Hid (asksV o (arityP o own) (10,a,b,c,d) s=mayV s a):=hD (by rw [HRR.out];rfl)
 obtain⟨hb0,hb1⟩:=hi.xb (by simp)
 simp only at hb0 hb1
 obtain⟨bk,rfl⟩:∃ bk:Nat,b=(bk:Int):=⟨b.toNat,by omega⟩
 have hbk:bk<16:=by omega
 obtain⟨hr0,hr1⟩:=hi.rg (by simp)
 simp only at hr0 hr1
 have HT:=hD (fun w=>zn6 hs a hr0 hr1 w)
 generalize mayV s a=q at HT HR
 cases q with
 | false=>
  have HSZ:=hD (zg HSs.out)
  go_upto_region 29 with(first | (refine zb zr zd rfl (.tmp 7) rfl (g+1+1) 0 rfl (stA s) (zf HS.out.st) HSZ.out ?_) | (go_at_call 64;refine(HT.out _).mono ?_;rintro e1 w5 ⟨rfl,hb5⟩;have HS:=hD (HS.out.up hb5);clear hb5;have i0:=HS.out.ins.cell 0;have i1:=HS.out.ins.cell 1;have i2:=HS.out.ins.cell 2;have i3:=HS.out.ins.cell 3;have i4:=HS.out.ins.cell 4;have q0:=HS.out.ob.cell 0;have q1:=HS.out.ob.cell 1;have q2:=HS.out.ob.cell 2;have q3:=HS.out.ob.cell 3))
  clear HSZ
  go_upto_region 68 with(fail)
  have HSZ:=hD (zg HSs.out)
  have H1:=hD (zp s)
  generalize hC:stA s=C at HS HSZ H1
  have HC:=hD hC
  clear hC
  go_upto_region 71 with(first | (go_at_call 70;refine(HPA.out _ (HV.out.below HS.out.below)).mono ?_;rintro e1 w5 ⟨rfl,hb5⟩;have HS:=hD (HS.out.up hb5);clear hb5;have i0:=HS.out.ins.cell 0;have i1:=HS.out.ins.cell 1;have i2:=HS.out.ins.cell 2;have i3:=HS.out.ins.cell 3;have i4:=HS.out.ins.cell 4;have q0:=HS.out.ob.cell 0;have q1:=HS.out.ob.cell 1;have q2:=HS.out.ob.cell 2;have q3:=HS.out.ob.cell 3))
  go_wp2_with (first | (refine zb zr zd rfl (.tmp 7) rfl (g+1+1) 0 rfl C (zf HS.out.st) HSZ.out ?_) | (refine za zd rfl (.tmp 8) (.tmp 296) rfl (g+1+1+1) 0 C rfl rfl (zi HS.out.re (by rw [HZS.out];decide)) HSZ.out H1.out ?_))
  exact bodyPost_ret (zh rfl _ _ (g+1+1+1) C rfl (HS.out.fin (HSZ.out.trans HZS.out.symm)).1 HSZ.out) rfl (StepD.of s HSs.out HC.out (q:=false) HR.out rfl (fun h=>by rw [HR.out] at h;cases h) (HS.out.fin (HSZ.out.trans HZS.out.symm)).2)
 | true=>
  have HTM:=hD (fun w=>zs9 hs a hr0 hr1 w)
  have HSZ:=hD (zg HSs.out)
  have HSb:=hD (HSs.out.bec hr0 hr1)
  have HSZ2:=hD (zg HSb.out)
  have H12:=hD (zp (becV s a))
  go_upto_region 29 with(first | (refine zb zr zd rfl (.tmp 7) rfl (g+1+1) 0 rfl (stA s) (zf HS.out.st) HSZ.out ?_) | (go_at_call 64;refine(HT.out _).mono ?_;rintro e1 w5 ⟨rfl,hb5⟩;have HS:=hD (HS.out.up hb5);clear hb5;have i0:=HS.out.ins.cell 0;have i1:=HS.out.ins.cell 1;have i2:=HS.out.ins.cell 2;have i3:=HS.out.ins.cell 3;have i4:=HS.out.ins.cell 4;have q0:=HS.out.ob.cell 0;have q1:=HS.out.ob.cell 1;have q2:=HS.out.ob.cell 2;have q3:=HS.out.ob.cell 3))
  go_upto_region 30 with(fail)
  go_upto_region 31 with(first | (refine zb zr zd rfl (.tmp 7) rfl (g+1+1) 0 rfl (stA s) (zf HS.out.st) HSZ.out ?_) | (go_at_call 66;refine(HTM.out _).mono ?_;rintro e1 w5 ⟨rfl,hb5⟩;have HS:=hD (HS.out.up hb5);clear hb5;have i0:=HS.out.ins.cell 0;have i1:=HS.out.ins.cell 1;have i2:=HS.out.ins.cell 2;have i3:=HS.out.ins.cell 3;have i4:=HS.out.ins.cell 4;have q0:=HS.out.ob.cell 0;have q1:=HS.out.ob.cell 1;have q2:=HS.out.ob.cell 2;have q3:=HS.out.ob.cell 3) | (refine za zd rfl (.tmp 7) (.tmp 147) rfl (g+1+1) 0 (stA (becV s a)) rfl rfl (zi HS.out.st (by rw [HSZ.out];decide)) HSZ2.out H12.out ?_;have HS:=hD (HS.out.put (HSZ2.out.trans HSZ.out.symm));have i0:=HS.out.ins.cell 0;have i1:=HS.out.ins.cell 1;have i2:=HS.out.ins.cell 2;have i3:=HS.out.ins.cell 3;have i4:=HS.out.ins.cell 4;have q0:=HS.out.ob.cell 0;have q1:=HS.out.ob.cell 1;have q2:=HS.out.ob.cell 2;have q3:=HS.out.ob.cell 3))
  generalize hwz:World.setCells _ (g+1+1) 0 (stA (becV s a)).toList=wz at HS i0 i1 i2 i3 i4 q0 q1 q2 q3 ⊢
  clear hwz
  have HSs:=HSb
  have HW:=hD (fun w=>zk3 (becV s a).x bk HSs.out.x (by omega) w)
  have x0:=HS.out.st.cell 0
  rw [stA_x] at x0
  have z0:=HS.out.st.frozen 0
  go_upto_region 68 with(first | (go_at_call 68;refine(HW.out _).mono ?_;rintro e1 w5 ⟨rfl,rfl⟩))
  have HS:=hD (HS.out.set 0 (.int .u32 (((becV s a).x ||| 2 ^ bk:Nat):Int)))
  rw [← zr5 (becV s a) bk] at HS
  have HSs:Hid (StOk (regV (becV s a) (bk:Int))):=hD (HSs.out.reg (by omega) (by omega))
  have HSZ:=hD (zg HSs.out)
  have H1:=hD (zp (regV (becV s a) (bk:Int)))
  generalize hC:stA (regV (becV s a) (bk:Int))=C at HS HSZ H1
  have HC:=hD hC
  clear hC
  go_upto_region 71 with(first | (go_at_call 70;refine(HPA.out _ (HV.out.below HS.out.below)).mono ?_;rintro e1 w5 ⟨rfl,hb5⟩;have HS:=hD (HS.out.up hb5);clear hb5;have i0:=HS.out.ins.cell 0;have i1:=HS.out.ins.cell 1;have i2:=HS.out.ins.cell 2;have i3:=HS.out.ins.cell 3;have i4:=HS.out.ins.cell 4;have q0:=HS.out.ob.cell 0;have q1:=HS.out.ob.cell 1;have q2:=HS.out.ob.cell 2;have q3:=HS.out.ob.cell 3))
  go_wp2_with (first | (refine zb zr zd rfl (.tmp 7) rfl (g+1+1) 0 rfl C (zf HS.out.st) HSZ.out ?_) | (refine za zd rfl (.tmp 8) (.tmp 296) rfl (g+1+1+1) 0 C rfl rfl (zi HS.out.re (by rw [HZS.out];decide)) HSZ.out H1.out ?_))
  exact bodyPost_ret (zh rfl _ _ (g+1+1+1) C rfl (HS.out.fin (HSZ.out.trans HZS.out.symm)).1 HSZ.out) rfl (StepD.of (regV (becV s a) (bk:Int)) HSs.out HC.out (q:=true) HR.out rfl (fun _=>rfl) (HS.out.fin (HSZ.out.trans HZS.out.symm)).2)
set_option maxHeartbeats 8000000 in
theorem rstep_1 {o:Ob} (ho:ObK o) {a b c d:Int} (hi:InsK o (1,a,b,c,d)) (own:Int) {s:VSt} (hs:StOk s) (hl:s.left=0) (ha:s.alt=false) {va vf vp vc:Value} (w:World) (hv:ObAt w va vf vp vc o) :
  Calls Tryz.prog 32 #[.agg #[va,vf,vp,vc],.int .i64 own,.agg #[.int .i64 1,.int .i64 a,.int .i64 b,.int .i64 c,.int .i64 d],.agg (stA s)] w (StepD o own (1,a,b,c,d) s w):=by
 obtain⟨A1,c1,rfl⟩:=CellsAt.form hv.atoms
 obtain⟨A2,cf,rfl⟩:=CellsAt.form hv.funs
 obtain⟨A3,cp,rfl⟩:=CellsAt.form hv.preds
 obtain⟨A4,c4,rfl⟩:=CellsAt.form hv.code
 have HV:=hD hv
 have HSs:=hD hs
 have HPA:=hD (fun W h=>zf1 (o:=o) (op:=1) (a:=a) (b:=b) (c:=c) (d:=d) (fun h=>hi.fa h) W (va:=.slice A1 o.atoms.length c1) (vf:=.slice A2 o.funs.length cf) (vp:=.slice A3 o.preds.length cp) (vc:=.slice A4 o.code.length c4) h)
 have HS0:=hD (SdW.start w #[.slice A1 o.atoms.length c1,.slice A2 o.funs.length cf,.slice A3 o.preds.length cp,.slice A4 o.code.length c4] #[.int .i64 1,.int .i64 a,.int .i64 b,.int .i64 c,.int .i64 d] (stA s) zeroA)
 have HZE:Hid (zeroA=#[.int .u32 0,.int .i64 0,.int .i64 0,.int .i64 0,.int .i64 0,.int .i64 0,.int .i64 0,.int .i64 0,.int .i64 0,.int .i64 0,.int .i64 0,.int .i64 0,.int .i64 0,.int .i64 0,.int .i64 0,.int .i64 0,.int .i64 0,.int .i64 0,.int .i64 0,.bool false,.bool false]):=hD rfl
 have HZS:Hid (zeroA.size=21):=hD rfl
 generalize zeroA=O at HS0 HZE HZS
 have HRR:=hD (ze1 (o:=o) (ar:=arityP o own) (op:=1) (a:=a) (b:=b) (c:=c) (d:=d) (s:=s) (by rw [ha];rfl) rfl hl)
 clear hv
 go_enter Tryz.func32,Tryz.ntmps32
 go_upto_region 1 with(fail)
 rw [← HZE.out]
 obtain⟨w1,hw1⟩:∃ w1,(((w.alloc (.cells #[.slice A1 o.atoms.length c1,.slice A2 o.funs.length cf,.slice A3 o.preds.length cp,.slice A4 o.code.length c4] 27)).alloc (.cells #[.int .i64 1,.int .i64 a,.int .i64 b,.int .i64 c,.int .i64 d] 54)).alloc (.cells (stA s) 95)).alloc (.cells O 95)=w1:=⟨_,rfl⟩
 obtain⟨g,hg⟩:∃ g,w.heap.size=g:=⟨_,rfl⟩
 rw [hw1] at HS0 ⊢
 rw [hg] at HS0 ⊢
 clear hw1 HZE hg
 have i0:=HS0.out.ins.cell 0
 have i1:=HS0.out.ins.cell 1
 have i2:=HS0.out.ins.cell 2
 go_quiet (fail)
 have HS:=hD (HS0.out.drewN nq)
 obtain⟨w2,hw2⟩:∃ w2,w1.drewN nq=w2:=⟨_,rfl⟩
 rw [hw2] at HS ⊢
 clear hw2 HS0 i0 i1 i2
 have i0:=HS.out.ins.cell 0
 have i1:=HS.out.ins.cell 1
 have i2:=HS.out.ins.cell 2
 have i3:=HS.out.ins.cell 3
 have i4:=HS.out.ins.cell 4
 have q0:=HS.out.ob.cell 0
 have q1:=HS.out.ob.cell 1
 have q2:=HS.out.ob.cell 2
 have q3:=HS.out.ob.cell 3
 have x0:=HS.out.st.cell 0
 rw [stA_x] at x0
 have x1:=HS.out.st.cell 1
 rw [zj1] at x1
 have x18:=HS.out.st.cell 18
 rw [zv HSs.out,hl] at x18
 have x19:=HS.out.st.cell 19
 rw [zg1 HSs.out,ha] at x19
 have x20:=HS.out.st.cell 20
 rw [za1 HSs.out] at x20
 go_upto_region 17 with(fail)
 obtain⟨hb0,hb1⟩:=hi.xb (by simp)
 simp only at hb0 hb1
 obtain⟨bk,rfl⟩:∃ bk:Nat,b=(bk:Int):=⟨b.toNat,by omega⟩
 have hbk:bk<16:=by omega
 obtain⟨hr0,hr1⟩:=hi.rg (by simp)
 simp only at hr0 hr1
 have HSB:=hD (fun w=>za3 s.x bk hs.x hbk w)
 have HT:=hD (fun w=>zn6 hs a hr0 hr1 w)
 have HR0:Hid (asksV o (arityP o own) (1,a,(bk:Int),c,d) s=(s.x.testBit bk && mayV s a)):=hD (by rw [HRR.out];rfl)
 generalize s.x.testBit bk=q1 at HSB HR0
 generalize mayV s a=q2 at HT HR0
 cases q1 with
 | false=>
  have HR:Hid (asksV o (arityP o own) (1,a,(bk:Int),c,d) s=false):=hD HR0.out
  go_upto_region 18 with(first | (go_at_call 67;refine(HSB.out _).mono ?_;rintro e1 w5 ⟨rfl,rfl⟩))
  go_upto_region 68 with(fail)
  have HSZ:=hD (zg HSs.out)
  have H1:=hD (zp s)
  generalize hC:stA s=C at HS HSZ H1
  have HC:=hD hC
  clear hC
  go_upto_region 71 with(first | (go_at_call 70;refine(HPA.out _ (HV.out.below HS.out.below)).mono ?_;rintro e1 w5 ⟨rfl,hb5⟩;have HS:=hD (HS.out.up hb5);clear hb5;have i0:=HS.out.ins.cell 0;have i1:=HS.out.ins.cell 1;have i2:=HS.out.ins.cell 2;have i3:=HS.out.ins.cell 3;have i4:=HS.out.ins.cell 4;have q0:=HS.out.ob.cell 0;have q1:=HS.out.ob.cell 1;have q2:=HS.out.ob.cell 2;have q3:=HS.out.ob.cell 3))
  go_wp2_with (first | (refine zb zr zd rfl (.tmp 7) rfl (g+1+1) 0 rfl C (zf HS.out.st) HSZ.out ?_) | (refine za zd rfl (.tmp 8) (.tmp 296) rfl (g+1+1+1) 0 C rfl rfl (zi HS.out.re (by rw [HZS.out];decide)) HSZ.out H1.out ?_))
  exact bodyPost_ret (zh rfl _ _ (g+1+1+1) C rfl (HS.out.fin (HSZ.out.trans HZS.out.symm)).1 HSZ.out) rfl (StepD.of s HSs.out HC.out (q:=false) HR.out rfl (fun h=>by rw [HR.out] at h;cases h) (HS.out.fin (HSZ.out.trans HZS.out.symm)).2)
 | true=>
  cases q2 with
  | false=>
   have HR:Hid (asksV o (arityP o own) (1,a,(bk:Int),c,d) s=false):=hD HR0.out
   have HSZ:=hD (zg HSs.out)
   go_upto_region 18 with(first | (go_at_call 67;refine(HSB.out _).mono ?_;rintro e1 w5 ⟨rfl,rfl⟩) | (refine zw zr zd (by kernel_rfl) (.tmp 7) rfl (g+1+1) 0 rfl (stA s) (zf HS.out.st) HSZ.out ?_) | (go_at_call 64;refine(HT.out _).mono ?_;rintro e1 w5 ⟨rfl,hb5⟩;have HS:=hD (HS.out.up hb5);clear hb5;have i0:=HS.out.ins.cell 0;have i1:=HS.out.ins.cell 1;have i2:=HS.out.ins.cell 2;have i3:=HS.out.ins.cell 3;have i4:=HS.out.ins.cell 4;have q0:=HS.out.ob.cell 0;have q1:=HS.out.ob.cell 1;have q2:=HS.out.ob.cell 2;have q3:=HS.out.ob.cell 3))
   clear HSZ
   go_upto_region 68 with(fail)
   have HSZ:=hD (zg HSs.out)
   have H1:=hD (zp s)
   generalize hC:stA s=C at HS HSZ H1
   have HC:=hD hC
   clear hC
   go_upto_region 71 with(first | (go_at_call 70;refine(HPA.out _ (HV.out.below HS.out.below)).mono ?_;rintro e1 w5 ⟨rfl,hb5⟩;have HS:=hD (HS.out.up hb5);clear hb5;have i0:=HS.out.ins.cell 0;have i1:=HS.out.ins.cell 1;have i2:=HS.out.ins.cell 2;have i3:=HS.out.ins.cell 3;have i4:=HS.out.ins.cell 4;have q0:=HS.out.ob.cell 0;have q1:=HS.out.ob.cell 1;have q2:=HS.out.ob.cell 2;have q3:=HS.out.ob.cell 3))
   go_wp2_with (first | (refine zb zr zd rfl (.tmp 7) rfl (g+1+1) 0 rfl C (zf HS.out.st) HSZ.out ?_) | (refine za zd rfl (.tmp 8) (.tmp 296) rfl (g+1+1+1) 0 C rfl rfl (zi HS.out.re (by rw [HZS.out];decide)) HSZ.out H1.out ?_))
   exact bodyPost_ret (zh rfl _ _ (g+1+1+1) C rfl (HS.out.fin (HSZ.out.trans HZS.out.symm)).1 HSZ.out) rfl (StepD.of s HSs.out HC.out (q:=false) HR.out rfl (fun h=>by rw [HR.out] at h;cases h) (HS.out.fin (HSZ.out.trans HZS.out.symm)).2)
  | true=>
   have HR:Hid (asksV o (arityP o own) (1,a,(bk:Int),c,d) s=true):=hD HR0.out
   have HTM:=hD (fun w=>zs9 hs a hr0 hr1 w)
   have HSZ:=hD (zg HSs.out)
   have HSb:=hD (HSs.out.bec hr0 hr1)
   have HSZ2:=hD (zg HSb.out)
   have H12:=hD (zp (becV s a))
   go_upto_region 18 with(first | (go_at_call 67;refine(HSB.out _).mono ?_;rintro e1 w5 ⟨rfl,rfl⟩) | (refine zw zr zd (by kernel_rfl) (.tmp 7) rfl (g+1+1) 0 rfl (stA s) (zf HS.out.st) HSZ.out ?_) | (go_at_call 64;refine(HT.out _).mono ?_;rintro e1 w5 ⟨rfl,hb5⟩;have HS:=hD (HS.out.up hb5);clear hb5;have i0:=HS.out.ins.cell 0;have i1:=HS.out.ins.cell 1;have i2:=HS.out.ins.cell 2;have i3:=HS.out.ins.cell 3;have i4:=HS.out.ins.cell 4;have q0:=HS.out.ob.cell 0;have q1:=HS.out.ob.cell 1;have q2:=HS.out.ob.cell 2;have q3:=HS.out.ob.cell 3))
   go_upto_region 19 with(fail)
   go_upto_region 68 with(first | (refine zb zr zd rfl (.tmp 7) rfl (g+1+1) 0 rfl (stA s) (zf HS.out.st) HSZ.out ?_) | (go_at_call 66;refine(HTM.out _).mono ?_;rintro e1 w5 ⟨rfl,hb5⟩;have HS:=hD (HS.out.up hb5);clear hb5;have i0:=HS.out.ins.cell 0;have i1:=HS.out.ins.cell 1;have i2:=HS.out.ins.cell 2;have i3:=HS.out.ins.cell 3;have i4:=HS.out.ins.cell 4;have q0:=HS.out.ob.cell 0;have q1:=HS.out.ob.cell 1;have q2:=HS.out.ob.cell 2;have q3:=HS.out.ob.cell 3) | (refine za zd rfl (.tmp 7) (.tmp 114) rfl (g+1+1) 0 (stA (becV s a)) rfl rfl (zi HS.out.st (by rw [HSZ.out];decide)) HSZ2.out H12.out ?_;have HS:=hD (HS.out.put (HSZ2.out.trans HSZ.out.symm));have i0:=HS.out.ins.cell 0;have i1:=HS.out.ins.cell 1;have i2:=HS.out.ins.cell 2;have i3:=HS.out.ins.cell 3;have i4:=HS.out.ins.cell 4;have q0:=HS.out.ob.cell 0;have q1:=HS.out.ob.cell 1;have q2:=HS.out.ob.cell 2;have q3:=HS.out.ob.cell 3))
   generalize hwz:World.setCells _ (g+1+1) 0 (stA (becV s a)).toList=wz at HS i0 i1 i2 i3 i4 q0 q1 q2 q3 ⊢
   clear hwz
   have HSs:=HSb
   have HSZ:=hD (zg HSs.out)
   have H1:=hD (zp (becV s a))
   generalize hC:stA (becV s a)=C at HS HSZ H1
   have HC:=hD hC
   clear hC
   go_upto_region 71 with(first | (go_at_call 70;refine(HPA.out _ (HV.out.below HS.out.below)).mono ?_;rintro e1 w5 ⟨rfl,hb5⟩;have HS:=hD (HS.out.up hb5);clear hb5;have i0:=HS.out.ins.cell 0;have i1:=HS.out.ins.cell 1;have i2:=HS.out.ins.cell 2;have i3:=HS.out.ins.cell 3;have i4:=HS.out.ins.cell 4;have q0:=HS.out.ob.cell 0;have q1:=HS.out.ob.cell 1;have q2:=HS.out.ob.cell 2;have q3:=HS.out.ob.cell 3))
   go_wp2_with (first | (refine zb zr zd rfl (.tmp 7) rfl (g+1+1) 0 rfl C (zf HS.out.st) HSZ.out ?_) | (refine za zd rfl (.tmp 8) (.tmp 296) rfl (g+1+1+1) 0 C rfl rfl (zi HS.out.re (by rw [HZS.out];decide)) HSZ.out H1.out ?_))
   exact bodyPost_ret (zh rfl _ _ (g+1+1+1) C rfl (HS.out.fin (HSZ.out.trans HZS.out.symm)).1 HSZ.out) rfl (StepD.of (becV s a) HSs.out HC.out (q:=true) HR.out rfl (fun _=>rfl) (HS.out.fin (HSZ.out.trans HZS.out.symm)).2)
end Go.Proofs.YtlmbiafloiompaaGreatDoor
