/-
 The document's step (layer 11),instruction by instruction: 0,3,4,12,15. Conditions: an object that may be,an instruction of it,no parts to come,another way where it is asked.
-/
import Derived.Test.YtlmbiafloiompaaGreatDoorJL13
import Derived.Shelf.Abstract
namespace Go.Proofs.YtlmbiafloiompaaGreatDoor
open Go Go.RowKit
set_option linter.unusedVariables false
set_option linter.unusedSimpArgs false
set_option maxRecDepth 100000
theorem zt10 {o:Ob} (ho:ObK o) (a:Int) (h0:0≤a) (h1:a<(o.funs.length:Int)):0<arityF o a:=by
 have hk:a.toNat<o.funs.length:=by omega
 unfold arityF
 rw [List.getD_eq_getElem?_getD,List.getElem?_eq_getElem hk]
 have:=ho.fun_ _ (List.getElem_mem hk)
 show 0<o.funs[a.toNat].2
 omega
def zero16D:Array Value:=#[.int .i64 0,.int .i64 0,.int .i64 0,.int .i64 0,.int .i64 0,.int .i64 0,.int .i64 0,.int .i64 0,.int .i64 0,.int .i64 0,.int .i64 0,.int .i64 0,.int .i64 0,.int .i64 0,.int .i64 0,.int .i64 0]
theorem zl16:zero16D.all (·.oneCell')=true:=Array.all_eq_true_iff_forall_mem.2 fun v hv=>by
 simp [zero16D] at hv
 subst hv
 rfl
theorem zy14:(Tryz.prog.info? 56).map (·.size)=some zero16D.size:=by kernel_rfl
theorem put_zeroD {s:VSt} (hs:StOk s):putL (stA s) 2 zero16D.toList=stA { s with y:=yZero }:=by
 obtain⟨x,env,y,left,alt,neck⟩:=s
 obtain⟨y0,y1,y2,y3,y4,y5,y6,y7,y8,y9,y10,y11,y12,y13,y14,y15,rfl⟩:=zv1 y hs.y
 simp [putL,zero16D,stA,yZero,List.replicate]
set_option maxHeartbeats 8000000 in
theorem rstep_0 {o:Ob} (ho:ObK o) {a b c d:Int} (hi:InsK o (0,a,b,c,d)) (own:Int) {s:VSt} (hs:StOk s) (hl:s.left=0) (ha:s.alt=false) {va vf vp vc:Value} (w:World) (hv:ObAt w va vf vp vc o) :
  Calls Tryz.prog 32 #[.agg #[va,vf,vp,vc],.int .i64 own,.agg #[.int .i64 0,.int .i64 a,.int .i64 b,.int .i64 c,.int .i64 d],.agg (stA s)] w (StepD o own (0,a,b,c,d) s w):=by
 obtain⟨A1,c1,rfl⟩:=CellsAt.form hv.atoms
 obtain⟨A2,cf,rfl⟩:=CellsAt.form hv.funs
 obtain⟨A3,cp,rfl⟩:=CellsAt.form hv.preds
 obtain⟨A4,c4,rfl⟩:=CellsAt.form hv.code
 have HV:=hD hv
 have HSs:=hD hs
 have HPA:=hD (fun W h=>zf1 (o:=o) (op:=0) (a:=a) (b:=b) (c:=c) (d:=d) (fun h=>hi.fa h) W (va:=.slice A1 o.atoms.length c1) (vf:=.slice A2 o.funs.length cf) (vp:=.slice A3 o.preds.length cp) (vc:=.slice A4 o.code.length c4) h)
 have HS0:=hD (SdW.start w #[.slice A1 o.atoms.length c1,.slice A2 o.funs.length cf,.slice A3 o.preds.length cp,.slice A4 o.code.length c4] #[.int .i64 0,.int .i64 a,.int .i64 b,.int .i64 c,.int .i64 d] (stA s) zeroA)
 have HZE:Hid (zeroA=#[.int .u32 0,.int .i64 0,.int .i64 0,.int .i64 0,.int .i64 0,.int .i64 0,.int .i64 0,.int .i64 0,.int .i64 0,.int .i64 0,.int .i64 0,.int .i64 0,.int .i64 0,.int .i64 0,.int .i64 0,.int .i64 0,.int .i64 0,.int .i64 0,.int .i64 0,.bool false,.bool false]):=hD rfl
 have HZS:Hid (zeroA.size=21):=hD rfl
 generalize zeroA=O at HS0 HZE HZS
 have HRR:=hD (ze1 (o:=o) (ar:=arityP o own) (op:=0) (a:=a) (b:=b) (c:=c) (d:=d) (s:=s) (by rw [ha];rfl) rfl hl)
 clear hv
 go_enter Tryz.func32,Tryz.ntmps32
 go_upto_region 1 with(fail)
 rw [← HZE.out]
 obtain⟨w1,hw1⟩:∃ w1,(((w.alloc (.cells #[.slice A1 o.atoms.length c1,.slice A2 o.funs.length cf,.slice A3 o.preds.length cp,.slice A4 o.code.length c4] 27)).alloc (.cells #[.int .i64 0,.int .i64 a,.int .i64 b,.int .i64 c,.int .i64 d] 54)).alloc (.cells (stA s) 95)).alloc (.cells O 95)=w1:=⟨_,rfl⟩
 obtain⟨g,hg⟩:∃ g,w.heap.size=g:=⟨_,rfl⟩
 rw [hw1] at HS0 ⊢
 rw [hg] at HS0 ⊢
 clear hw1 HZE hg
 have i0:=HS0.out.ins.cell 0
 have i1:=HS0.out.ins.cell 1
 have i2:=HS0.out.ins.cell 2
 go_quiet (fail)
 have HS:=hD (HS0.out.drewN nq)
 obtain⟨w2,hw2⟩:∃ w2,w1.drewN nq=w2:=⟨_,rfl⟩
 rw [hw2] at HS ⊢
 clear hw2 HS0 i0 i1 i2
 have i0:=HS.out.ins.cell 0
 have i1:=HS.out.ins.cell 1
 have i2:=HS.out.ins.cell 2
 have i3:=HS.out.ins.cell 3
 have i4:=HS.out.ins.cell 4
 have q0:=HS.out.ob.cell 0
 have q1:=HS.out.ob.cell 1
 have q2:=HS.out.ob.cell 2
 have q3:=HS.out.ob.cell 3
 have x0:=HS.out.st.cell 0
 rw [stA_x] at x0
 have x1:=HS.out.st.cell 1
 rw [zj1] at x1
 have x18:=HS.out.st.cell 18
 rw [zv HSs.out,hl] at x18
 have x19:=HS.out.st.cell 19
 rw [zg1 HSs.out,ha] at x19
 have x20:=HS.out.st.cell 20
 rw [za1 HSs.out] at x20
 go_upto_region 68 with(fail)
 have HR:Hid (asksV o (arityP o own) (0,a,b,c,d) s=true):=hD (by rw [HRR.out];rfl)
 have HSZ:=hD (zg HSs.out)
 have H1:=hD (zp s)
 generalize hC:stA s=C at HS HSZ H1
 have HC:=hD hC
 clear hC
 go_upto_region 71 with(first | (go_at_call 70;refine(HPA.out _ (HV.out.below HS.out.below)).mono ?_;rintro e1 w5 ⟨rfl,hb5⟩;have HS:=hD (HS.out.up hb5);clear hb5;have i0:=HS.out.ins.cell 0;have i1:=HS.out.ins.cell 1;have i2:=HS.out.ins.cell 2;have i3:=HS.out.ins.cell 3;have i4:=HS.out.ins.cell 4;have q0:=HS.out.ob.cell 0;have q1:=HS.out.ob.cell 1;have q2:=HS.out.ob.cell 2;have q3:=HS.out.ob.cell 3))
 go_wp2_with (first | (refine zb zr zd rfl (.tmp 7) rfl (g+1+1) 0 rfl C (zf HS.out.st) HSZ.out ?_) | (refine za zd rfl (.tmp 8) (.tmp 296) rfl (g+1+1+1) 0 C rfl rfl (zi HS.out.re (by rw [HZS.out];decide)) HSZ.out H1.out ?_))
 exact bodyPost_ret (zh rfl _ _ (g+1+1+1) C rfl (HS.out.fin (HSZ.out.trans HZS.out.symm)).1 HSZ.out) rfl (StepD.of s HSs.out HC.out (q:=true) HR.out rfl (fun _=>rfl) (HS.out.fin (HSZ.out.trans HZS.out.symm)).2)
set_option maxHeartbeats 8000000 in
theorem rstep_3 {o:Ob} (ho:ObK o) {a b c d:Int} (hi:InsK o (3,a,b,c,d)) (own:Int) {s:VSt} (hs:StOk s) (hl:s.left=0) (ha:s.alt=false) {va vf vp vc:Value} (w:World) (hv:ObAt w va vf vp vc o) :
  Calls Tryz.prog 32 #[.agg #[va,vf,vp,vc],.int .i64 own,.agg #[.int .i64 3,.int .i64 a,.int .i64 b,.int .i64 c,.int .i64 d],.agg (stA s)] w (StepD o own (3,a,b,c,d) s w):=by
 obtain⟨A1,c1,rfl⟩:=CellsAt.form hv.atoms
 obtain⟨A2,cf,rfl⟩:=CellsAt.form hv.funs
 obtain⟨A3,cp,rfl⟩:=CellsAt.form hv.preds
 obtain⟨A4,c4,rfl⟩:=CellsAt.form hv.code
 have HV:=hD hv
 have HSs:=hD hs
 have HPA:=hD (fun W h=>zf1 (o:=o) (op:=3) (a:=a) (b:=b) (c:=c) (d:=d) (fun h=>hi.fa h) W (va:=.slice A1 o.atoms.length c1) (vf:=.slice A2 o.funs.length cf) (vp:=.slice A3 o.preds.length cp) (vc:=.slice A4 o.code.length c4) h)
 have HS0:=hD (SdW.start w #[.slice A1 o.atoms.length c1,.slice A2 o.funs.length cf,.slice A3 o.preds.length cp,.slice A4 o.code.length c4] #[.int .i64 3,.int .i64 a,.int .i64 b,.int .i64 c,.int .i64 d] (stA s) zeroA)
 have HZE:Hid (zeroA=#[.int .u32 0,.int .i64 0,.int .i64 0,.int .i64 0,.int .i64 0,.int .i64 0,.int .i64 0,.int .i64 0,.int .i64 0,.int .i64 0,.int .i64 0,.int .i64 0,.int .i64 0,.int .i64 0,.int .i64 0,.int .i64 0,.int .i64 0,.int .i64 0,.int .i64 0,.bool false,.bool false]):=hD rfl
 have HZS:Hid (zeroA.size=21):=hD rfl
 generalize zeroA=O at HS0 HZE HZS
 have HRR:=hD (ze1 (o:=o) (ar:=arityP o own) (op:=3) (a:=a) (b:=b) (c:=c) (d:=d) (s:=s) (by rw [ha];rfl) rfl hl)
 clear hv
 go_enter Tryz.func32,Tryz.ntmps32
 go_upto_region 1 with(fail)
 rw [← HZE.out]
 obtain⟨w1,hw1⟩:∃ w1,(((w.alloc (.cells #[.slice A1 o.atoms.length c1,.slice A2 o.funs.length cf,.slice A3 o.preds.length cp,.slice A4 o.code.length c4] 27)).alloc (.cells #[.int .i64 3,.int .i64 a,.int .i64 b,.int .i64 c,.int .i64 d] 54)).alloc (.cells (stA s) 95)).alloc (.cells O 95)=w1:=⟨_,rfl⟩
 obtain⟨g,hg⟩:∃ g,w.heap.size=g:=⟨_,rfl⟩
 rw [hw1] at HS0 ⊢
 rw [hg] at HS0 ⊢
 clear hw1 HZE hg
 have i0:=HS0.out.ins.cell 0
 have i1:=HS0.out.ins.cell 1
 have i2:=HS0.out.ins.cell 2
 go_quiet (fail)
 have HS:=hD (HS0.out.drewN nq)
 obtain⟨w2,hw2⟩:∃ w2,w1.drewN nq=w2:=⟨_,rfl⟩
 rw [hw2] at HS ⊢
 clear hw2 HS0 i0 i1 i2
 have i0:=HS.out.ins.cell 0
 have i1:=HS.out.ins.cell 1
 have i2:=HS.out.ins.cell 2
 have i3:=HS.out.ins.cell 3
 have i4:=HS.out.ins.cell 4
 have q0:=HS.out.ob.cell 0
 have q1:=HS.out.ob.cell 1
 have q2:=HS.out.ob.cell 2
 have q3:=HS.out.ob.cell 3
 have x0:=HS.out.st.cell 0
 rw [stA_x] at x0
 have x1:=HS.out.st.cell 1
 rw [zj1] at x1
 have x18:=HS.out.st.cell 18
 rw [zv HSs.out,hl] at x18
 have x19:=HS.out.st.cell 19
 rw [zg1 HSs.out,ha] at x19
 have x20:=HS.out.st.cell 20
 rw [za1 HSs.out] at x20
 go_upto_region 24 with(fail)
 obtain⟨hb0,hb1⟩:=hi.xb (by simp)
 simp only at hb0 hb1
 obtain⟨bk,rfl⟩:∃ bk:Nat,b=(bk:Int):=⟨b.toNat,by omega⟩
 have hbk:bk<16:=by omega
 have HSB:=hD (fun w=>za3 s.x bk hs.x (by omega) w)
 have HR:Hid (asksV o (arityP o own) (3,a,(bk:Int),c,d) s=s.x.testBit bk):=hD (by rw [HRR.out];rfl)
 generalize s.x.testBit bk=q at HSB HR
 go_upto_region 68 with(first | (go_at_call 67;refine(HSB.out _).mono ?_;rintro e1 w5 ⟨rfl,rfl⟩))
 have HSZ:=hD (zg HSs.out)
 have H1:=hD (zp s)
 generalize hC:stA s=C at HS HSZ H1
 have HC:=hD hC
 clear hC
 go_upto_region 71 with(first | (go_at_call 70;refine(HPA.out _ (HV.out.below HS.out.below)).mono ?_;rintro e1 w5 ⟨rfl,hb5⟩;have HS:=hD (HS.out.up hb5);clear hb5;have i0:=HS.out.ins.cell 0;have i1:=HS.out.ins.cell 1;have i2:=HS.out.ins.cell 2;have i3:=HS.out.ins.cell 3;have i4:=HS.out.ins.cell 4;have q0:=HS.out.ob.cell 0;have q1:=HS.out.ob.cell 1;have q2:=HS.out.ob.cell 2;have q3:=HS.out.ob.cell 3))
 go_wp2_with (first | (refine zb zr zd rfl (.tmp 7) rfl (g+1+1) 0 rfl C (zf HS.out.st) HSZ.out ?_) | (refine za zd rfl (.tmp 8) (.tmp 296) rfl (g+1+1+1) 0 C rfl rfl (zi HS.out.re (by rw [HZS.out];decide)) HSZ.out H1.out ?_))
 exact bodyPost_ret (zh rfl _ _ (g+1+1+1) C rfl (HS.out.fin (HSZ.out.trans HZS.out.symm)).1 HSZ.out) rfl (StepD.of s HSs.out HC.out (q:=q) HR.out rfl (fun _=>rfl) (HS.out.fin (HSZ.out.trans HZS.out.symm)).2)
set_option maxHeartbeats 8000000 in
theorem rstep_4 {o:Ob} (ho:ObK o) {a b c d:Int} (hi:InsK o (4,a,b,c,d)) (own:Int) {s:VSt} (hs:StOk s) (hl:s.left=0) (ha:s.alt=false) {va vf vp vc:Value} (w:World) (hv:ObAt w va vf vp vc o) :
  Calls Tryz.prog 32 #[.agg #[va,vf,vp,vc],.int .i64 own,.agg #[.int .i64 4,.int .i64 a,.int .i64 b,.int .i64 c,.int .i64 d],.agg (stA s)] w (StepD o own (4,a,b,c,d) s w):=by
 obtain⟨A1,c1,rfl⟩:=CellsAt.form hv.atoms
 obtain⟨A2,cf,rfl⟩:=CellsAt.form hv.funs
 obtain⟨A3,cp,rfl⟩:=CellsAt.form hv.preds
 obtain⟨A4,c4,rfl⟩:=CellsAt.form hv.code
 have HV:=hD hv
 have HSs:=hD hs
 have HPA:=hD (fun W h=>zf1 (o:=o) (op:=4) (a:=a) (b:=b) (c:=c) (d:=d) (fun h=>hi.fa h) W (va:=.slice A1 o.atoms.length c1) (vf:=.slice A2 o.funs.length cf) (vp:=.slice A3 o.preds.length cp) (vc:=.slice A4 o.code.length c4) h)
 have HS0:=hD (SdW.start w #[.slice A1 o.atoms.length c1,.slice A2 o.funs.length cf,.slice A3 o.preds.length cp,.slice A4 o.code.length c4] #[.int .i64 4,.int .i64 a,.int .i64 b,.int .i64 c,.int .i64 d] (stA s) zeroA)
 have HZE:Hid (zeroA=#[.int .u32 0,.int .i64 0,.int .i64 0,.int .i64 0,.int .i64 0,.int .i64 0,.int .i64 0,.int .i64 0,.int .i64 0,.int .i64 0,.int .i64 0,.int .i64 0,.int .i64 0,.int .i64 0,.int .i64 0,.int .i64 0,.int .i64 0,.int .i64 0,.int .i64 0,.bool false,.bool false]):=hD rfl
 have HZS:Hid (zeroA.size=21):=hD rfl
 generalize zeroA=O at HS0 HZE HZS
 have HRR:=hD (ze1 (o:=o) (ar:=arityP o own) (op:=4) (a:=a) (b:=b) (c:=c) (d:=d) (s:=s) (by rw [ha];rfl) rfl hl)
 clear hv
 go_enter Tryz.func32,Tryz.ntmps32
 go_upto_region 1 with(fail)
 rw [← HZE.out]
 obtain⟨w1,hw1⟩:∃ w1,(((w.alloc (.cells #[.slice A1 o.atoms.length c1,.slice A2 o.funs.length cf,.slice A3 o.preds.length cp,.slice A4 o.code.length c4] 27)).alloc (.cells #[.int .i64 4,.int .i64 a,.int .i64 b,.int .i64 c,.int .i64 d] 54)).alloc (.cells (stA s) 95)).alloc (.cells O 95)=w1:=⟨_,rfl⟩
 obtain⟨g,hg⟩:∃ g,w.heap.size=g:=⟨_,rfl⟩
 rw [hw1] at HS0 ⊢
 rw [hg] at HS0 ⊢
 clear hw1 HZE hg
 have i0:=HS0.out.ins.cell 0
 have i1:=HS0.out.ins.cell 1
 have i2:=HS0.out.ins.cell 2
 go_quiet (fail)
 have HS:=hD (HS0.out.drewN nq)
 obtain⟨w2,hw2⟩:∃ w2,w1.drewN nq=w2:=⟨_,rfl⟩
 rw [hw2] at HS ⊢
 clear hw2 HS0 i0 i1 i2
 have i0:=HS.out.ins.cell 0
 have i1:=HS.out.ins.cell 1
 have i2:=HS.out.ins.cell 2
 have i3:=HS.out.ins.cell 3
 have i4:=HS.out.ins.cell 4
 have q0:=HS.out.ob.cell 0
 have q1:=HS.out.ob.cell 1
 have q2:=HS.out.ob.cell 2
 have q3:=HS.out.ob.cell 3
 have x0:=HS.out.st.cell 0
 rw [stA_x] at x0
 have x1:=HS.out.st.cell 1
 rw [zj1] at x1
 have x18:=HS.out.st.cell 18
 rw [zv HSs.out,hl] at x18
 have x19:=HS.out.st.cell 19
 rw [zg1 HSs.out,ha] at x19
 have x20:=HS.out.st.cell 20
 rw [za1 HSs.out] at x20
 go_upto_region 24 with(fail)
 obtain⟨hb0,hb1⟩:=hi.xb (by simp)
 simp only at hb0 hb1
 obtain⟨bk,rfl⟩:∃ bk:Nat,b=(bk:Int):=⟨b.toNat,by omega⟩
 have hbk:bk<16:=by omega
 obtain⟨hf0,hf1⟩:=hi.fa (by simp)
 simp only at hf0 hf1
 have har:=zt10 ho a hf0 hf1
 have HPF:Hid (partsV o 4 a=arityF o a):=hD (if_pos (by simp))
 rw [HPF.out] at HPA
 have HSB:=hD (fun w=>za3 s.x bk hs.x (by omega) w)
 have HR:Hid (asksV o (arityP o own) (4,a,(bk:Int),c,d) s=s.x.testBit bk):=hD (by rw [HRR.out];rfl)
 generalize s.x.testBit bk=q at HSB HR
 generalize hav:arityF o a=av at HPA har
 have HAV:=hD hav
 clear hav
 go_upto_region 68 with(first | (go_at_call 67;refine(HSB.out _).mono ?_;rintro e1 w5 ⟨rfl,rfl⟩))
 go_upto_region 70 with(first | (go_at_call 70;refine(HPA.out _ (HV.out.below HS.out.below)).mono ?_;rintro e1 w5 ⟨rfl,hb5⟩;have HS:=hD (HS.out.up hb5);clear hb5;have i0:=HS.out.ins.cell 0;have i1:=HS.out.ins.cell 1;have i2:=HS.out.ins.cell 2;have i3:=HS.out.ins.cell 3;have i4:=HS.out.ins.cell 4;have q0:=HS.out.ob.cell 0;have q1:=HS.out.ob.cell 1;have q2:=HS.out.ob.cell 2;have q3:=HS.out.ob.cell 3))
 have x18:=HS.out.st.cell 18
 rw [zv HSs.out] at x18
 have z18:=HS.out.st.frozen (18)
 have HS0:=HS
 have HS:=hD (HS.out.set (18) (.int .i64 av))
 rw [← zm1 HSs.out av] at HS
 have HSs:Hid (StOk { s with left:=av }):=hD (⟨HSs.out.y,HSs.out.x⟩)
 go_upto_region 71 with(fail)
 have HSZ:=hD (zg HSs.out)
 have H1:=hD (zp { s with left:=av })
 generalize hC:stA { s with left:=av }=C at HS HSZ H1
 have HC:=hD hC
 clear hC
 go_wp2_with (first | (refine zb zr zd rfl (.tmp 7) rfl (g+1+1) 0 rfl C (zf HS.out.st) HSZ.out ?_) | (refine za zd rfl (.tmp 8) (.tmp 296) rfl (g+1+1+1) 0 C rfl rfl (zi HS.out.re (by rw [HZS.out];decide)) HSZ.out H1.out ?_))
 exact bodyPost_ret (zh rfl _ _ (g+1+1+1) C rfl (HS.out.fin (HSZ.out.trans HZS.out.symm)).1 HSZ.out) rfl (StepD.of { s with left:=av } HSs.out HC.out (q:=q) HR.out rfl (fun _=>by rw [← HAV.out];rfl) (HS.out.fin (HSZ.out.trans HZS.out.symm)).2)
set_option maxHeartbeats 8000000 in
theorem rstep_12 {o:Ob} (ho:ObK o) {a b c d:Int} (hi:InsK o (12,a,b,c,d)) (own:Int) {s:VSt} (hs:StOk s) (hl:s.left=0) (ha:s.alt=false) {va vf vp vc:Value} (w:World) (hv:ObAt w va vf vp vc o) :
  Calls Tryz.prog 32 #[.agg #[va,vf,vp,vc],.int .i64 own,.agg #[.int .i64 12,.int .i64 a,.int .i64 b,.int .i64 c,.int .i64 d],.agg (stA s)] w (StepD o own (12,a,b,c,d) s w):=by
 obtain⟨A1,c1,rfl⟩:=CellsAt.form hv.atoms
 obtain⟨A2,cf,rfl⟩:=CellsAt.form hv.funs
 obtain⟨A3,cp,rfl⟩:=CellsAt.form hv.preds
 obtain⟨A4,c4,rfl⟩:=CellsAt.form hv.code
 have HV:=hD hv
 have HSs:=hD hs
 have HPA:=hD (fun W h=>zf1 (o:=o) (op:=12) (a:=a) (b:=b) (c:=c) (d:=d) (fun h=>hi.fa h) W (va:=.slice A1 o.atoms.length c1) (vf:=.slice A2 o.funs.length cf) (vp:=.slice A3 o.preds.length cp) (vc:=.slice A4 o.code.length c4) h)
 have HS0:=hD (SdW.start w #[.slice A1 o.atoms.length c1,.slice A2 o.funs.length cf,.slice A3 o.preds.length cp,.slice A4 o.code.length c4] #[.int .i64 12,.int .i64 a,.int .i64 b,.int .i64 c,.int .i64 d] (stA s) zeroA)
 have HZE:Hid (zeroA=#[.int .u32 0,.int .i64 0,.int .i64 0,.int .i64 0,.int .i64 0,.int .i64 0,.int .i64 0,.int .i64 0,.int .i64 0,.int .i64 0,.int .i64 0,.int .i64 0,.int .i64 0,.int .i64 0,.int .i64 0,.int .i64 0,.int .i64 0,.int .i64 0,.int .i64 0,.bool false,.bool false]):=hD rfl
 have HZS:Hid (zeroA.size=21):=hD rfl
 generalize zeroA=O at HS0 HZE HZS
 have HRR:=hD (ze1 (o:=o) (ar:=arityP o own) (op:=12) (a:=a) (b:=b) (c:=c) (d:=d) (s:=s) (by rw [ha];rfl) rfl hl)
 clear hv
 go_enter Tryz.func32,Tryz.ntmps32
 go_upto_region 1 with(fail)
 rw [← HZE.out]
 obtain⟨w1,hw1⟩:∃ w1,(((w.alloc (.cells #[.slice A1 o.atoms.length c1,.slice A2 o.funs.length cf,.slice A3 o.preds.length cp,.slice A4 o.code.length c4] 27)).alloc (.cells #[.int .i64 12,.int .i64 a,.int .i64 b,.int .i64 c,.int .i64 d] 54)).alloc (.cells (stA s) 95)).alloc (.cells O 95)=w1:=⟨_,rfl⟩
 obtain⟨g,hg⟩:∃ g,w.heap.size=g:=⟨_,rfl⟩
 rw [hw1] at HS0 ⊢
 rw [hg] at HS0 ⊢
 clear hw1 HZE hg
 have i0:=HS0.out.ins.cell 0
 have i1:=HS0.out.ins.cell 1
 have i2:=HS0.out.ins.cell 2
 go_quiet (fail)
 have HS:=hD (HS0.out.drewN nq)
 obtain⟨w2,hw2⟩:∃ w2,w1.drewN nq=w2:=⟨_,rfl⟩
 rw [hw2] at HS ⊢
 clear hw2 HS0 i0 i1 i2
 have i0:=HS.out.ins.cell 0
 have i1:=HS.out.ins.cell 1
 have i2:=HS.out.ins.cell 2
 have i3:=HS.out.ins.cell 3
 have i4:=HS.out.ins.cell 4
 have q0:=HS.out.ob.cell 0
 have q1:=HS.out.ob.cell 1
 have q2:=HS.out.ob.cell 2
 have q3:=HS.out.ob.cell 3
 have x0:=HS.out.st.cell 0
 rw [stA_x] at x0
 have x1:=HS.out.st.cell 1
 rw [zj1] at x1
 have x18:=HS.out.st.cell 18
 rw [zv HSs.out,hl] at x18
 have x19:=HS.out.st.cell 19
 rw [zg1 HSs.out,ha] at x19
 have x20:=HS.out.st.cell 20
 rw [za1 HSs.out] at x20
 go_upto_region 37 with(fail)
 have HR:Hid (asksV o (arityP o own) (12,a,b,c,d) s=true):=hD (by rw [HRR.out];rfl)
 obtain⟨hb0,hb1⟩:=hi.xb (by simp)
 simp only at hb0 hb1
 obtain⟨bk,rfl⟩:∃ bk:Nat,b=(bk:Int):=⟨b.toNat,by omega⟩
 have hbk:bk<16:=by omega
 have HW:=hD (fun w=>zk3 s.x bk HSs.out.x (by omega) w)
 have x0:=HS.out.st.cell 0
 rw [stA_x] at x0
 have z0:=HS.out.st.frozen 0
 go_upto_region 68 with(first | (go_at_call 68;refine(HW.out _).mono ?_;rintro e1 w5 ⟨rfl,rfl⟩))
 have HS:=hD (HS.out.set 0 (.int .u32 ((s.x ||| 2 ^ bk:Nat):Int)))
 rw [← zr5 s bk] at HS
 have HSs:Hid (StOk (regV s (bk:Int))):=hD (HSs.out.reg (by omega) (by omega))
 have HSZ:=hD (zg HSs.out)
 have H1:=hD (zp (regV s (bk:Int)))
 generalize hC:stA (regV s (bk:Int))=C at HS HSZ H1
 have HC:=hD hC
 clear hC
 go_upto_region 71 with(first | (go_at_call 70;refine(HPA.out _ (HV.out.below HS.out.below)).mono ?_;rintro e1 w5 ⟨rfl,hb5⟩;have HS:=hD (HS.out.up hb5);clear hb5;have i0:=HS.out.ins.cell 0;have i1:=HS.out.ins.cell 1;have i2:=HS.out.ins.cell 2;have i3:=HS.out.ins.cell 3;have i4:=HS.out.ins.cell 4;have q0:=HS.out.ob.cell 0;have q1:=HS.out.ob.cell 1;have q2:=HS.out.ob.cell 2;have q3:=HS.out.ob.cell 3))
 go_wp2_with (first | (refine zb zr zd rfl (.tmp 7) rfl (g+1+1) 0 rfl C (zf HS.out.st) HSZ.out ?_) | (refine za zd rfl (.tmp 8) (.tmp 296) rfl (g+1+1+1) 0 C rfl rfl (zi HS.out.re (by rw [HZS.out];decide)) HSZ.out H1.out ?_))
 exact bodyPost_ret (zh rfl _ _ (g+1+1+1) C rfl (HS.out.fin (HSZ.out.trans HZS.out.symm)).1 HSZ.out) rfl (StepD.of (regV s (bk:Int)) HSs.out HC.out (q:=true) HR.out rfl (fun _=>rfl) (HS.out.fin (HSZ.out.trans HZS.out.symm)).2)
set_option maxHeartbeats 8000000 in
theorem rstep_15 {o:Ob} (ho:ObK o) {a b c d:Int} (hi:InsK o (15,a,b,c,d)) (own:Int) {s:VSt} (hs:StOk s) (hl:s.left=0) (ha:s.alt=false) {va vf vp vc:Value} (w:World) (hv:ObAt w va vf vp vc o) :
  Calls Tryz.prog 32 #[.agg #[va,vf,vp,vc],.int .i64 own,.agg #[.int .i64 15,.int .i64 a,.int .i64 b,.int .i64 c,.int .i64 d],.agg (stA s)] w (StepD o own (15,a,b,c,d) s w):=by
 obtain⟨A1,c1,rfl⟩:=CellsAt.form hv.atoms
 obtain⟨A2,cf,rfl⟩:=CellsAt.form hv.funs
 obtain⟨A3,cp,rfl⟩:=CellsAt.form hv.preds
 obtain⟨A4,c4,rfl⟩:=CellsAt.form hv.code
 have HV:=hD hv
 have HSs:=hD hs
 have HPA:=hD (fun W h=>zf1 (o:=o) (op:=15) (a:=a) (b:=b) (c:=c) (d:=d) (fun h=>hi.fa h) W (va:=.slice A1 o.atoms.length c1) (vf:=.slice A2 o.funs.length cf) (vp:=.slice A3 o.preds.length cp) (vc:=.slice A4 o.code.length c4) h)
 have HS0:=hD (SdW.start w #[.slice A1 o.atoms.length c1,.slice A2 o.funs.length cf,.slice A3 o.preds.length cp,.slice A4 o.code.length c4] #[.int .i64 15,.int .i64 a,.int .i64 b,.int .i64 c,.int .i64 d] (stA s) zeroA)
 have HZE:Hid (zeroA=#[.int .u32 0,.int .i64 0,.int .i64 0,.int .i64 0,.int .i64 0,.int .i64 0,.int .i64 0,.int .i64 0,.int .i64 0,.int .i64 0,.int .i64 0,.int .i64 0,.int .i64 0,.int .i64 0,.int .i64 0,.int .i64 0,.int .i64 0,.int .i64 0,.int .i64 0,.bool false,.bool false]):=hD rfl
 have HZS:Hid (zeroA.size=21):=hD rfl
 generalize zeroA=O at HS0 HZE HZS
 have HRR:=hD (ze1 (o:=o) (ar:=arityP o own) (op:=15) (a:=a) (b:=b) (c:=c) (d:=d) (s:=s) (by rw [ha];rfl) rfl hl)
 clear hv
 go_enter Tryz.func32,Tryz.ntmps32
 go_upto_region 1 with(fail)
 rw [← HZE.out]
 obtain⟨w1,hw1⟩:∃ w1,(((w.alloc (.cells #[.slice A1 o.atoms.length c1,.slice A2 o.funs.length cf,.slice A3 o.preds.length cp,.slice A4 o.code.length c4] 27)).alloc (.cells #[.int .i64 15,.int .i64 a,.int .i64 b,.int .i64 c,.int .i64 d] 54)).alloc (.cells (stA s) 95)).alloc (.cells O 95)=w1:=⟨_,rfl⟩
 obtain⟨g,hg⟩:∃ g,w.heap.size=g:=⟨_,rfl⟩
 rw [hw1] at HS0 ⊢
 rw [hg] at HS0 ⊢
 clear hw1 HZE hg
 have i0:=HS0.out.ins.cell 0
 have i1:=HS0.out.ins.cell 1
 have i2:=HS0.out.ins.cell 2
 go_quiet (fail)
 have HS:=hD (HS0.out.drewN nq)
 obtain⟨w2,hw2⟩:∃ w2,w1.drewN nq=w2:=⟨_,rfl⟩
 rw [hw2] at HS ⊢
 clear hw2 HS0 i0 i1 i2
 have i0:=HS.out.ins.cell 0
 have i1:=HS.out.ins.cell 1
 have i2:=HS.out.ins.cell 2
 have i3:=HS.out.ins.cell 3
 have i4:=HS.out.ins.cell 4
 have q0:=HS.out.ob.cell 0
 have q1:=HS.out.ob.cell 1
 have q2:=HS.out.ob.cell 2
 have q3:=HS.out.ob.cell 3
 have x0:=HS.out.st.cell 0
 rw [stA_x] at x0
 have x1:=HS.out.st.cell 1
 rw [zj1] at x1
 have x18:=HS.out.st.cell 18
 rw [zv HSs.out,hl] at x18
 have x19:=HS.out.st.cell 19
 rw [zg1 HSs.out,ha] at x19
 have x20:=HS.out.st.cell 20
 rw [za1 HSs.out] at x20
 go_upto_region 41 with(fail)
 have HR:Hid (asksV o (arityP o own) (15,a,b,c,d) s=decide (s.env<0)):=hD (by rw [HRR.out];rfl)
 go_upto_region 42 with(fail)
 have z1:=HS.out.st.frozen (1)
 have HS0:=HS
 have HS:=hD (HS.out.set (1) (.int .i64 a))
 rw [← zd5 s a] at HS
 have HSs:Hid (StOk { s with env:=a }):=hD (⟨HSs.out.y,HSs.out.x⟩)
 go_upto_region 68 with(fail)
 generalize s.env=en_ at HR x1
 have HSZ:=hD (zg HSs.out)
 have H1:=hD (zp { s with env:=a })
 generalize hC:stA { s with env:=a }=C at HS HSZ H1
 have HC:=hD hC
 clear hC
 go_upto_region 71 with(first | (go_at_call 70;refine(HPA.out _ (HV.out.below HS.out.below)).mono ?_;rintro e1 w5 ⟨rfl,hb5⟩;have HS:=hD (HS.out.up hb5);clear hb5;have i0:=HS.out.ins.cell 0;have i1:=HS.out.ins.cell 1;have i2:=HS.out.ins.cell 2;have i3:=HS.out.ins.cell 3;have i4:=HS.out.ins.cell 4;have q0:=HS.out.ob.cell 0;have q1:=HS.out.ob.cell 1;have q2:=HS.out.ob.cell 2;have q3:=HS.out.ob.cell 3))
 go_wp2_with (first | (refine zb zr zd rfl (.tmp 7) rfl (g+1+1) 0 rfl C (zf HS.out.st) HSZ.out ?_) | (refine za zd rfl (.tmp 8) (.tmp 296) rfl (g+1+1+1) 0 C rfl rfl (zi HS.out.re (by rw [HZS.out];decide)) HSZ.out H1.out ?_))
 exact bodyPost_ret (zh rfl _ _ (g+1+1+1) C rfl (HS.out.fin (HSZ.out.trans HZS.out.symm)).1 HSZ.out) rfl (StepD.of { s with env:=a } HSs.out HC.out (q:=decide (en_<0)) HR.out rfl (fun _=>rfl) (HS.out.fin (HSZ.out.trans HZS.out.symm)).2)
end Go.Proofs.YtlmbiafloiompaaGreatDoor
