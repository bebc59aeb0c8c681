/-
 The document's step (layer 11): of whatever instruction. Conditions: an object that may be,an instruction of it,a place in some predicate's code.
-/
import Derived.Test.YtlmbiafloiompaaGreatDoorJL21
namespace Go.Proofs.YtlmbiafloiompaaGreatDoor
open Go Go.RowKit
set_option linter.unusedVariables false
set_option linter.unusedSimpArgs false
set_option maxRecDepth 100000
set_option maxHeartbeats 8000000 in
theorem rstep_6 {o:Ob} (ho:ObK o) {a b c d:Int} (hi:InsK o (6,a,b,c,d)) (own:Int) {s:VSt} (hs:StOk s) (hlf:0≤s.left∧s.left≤8) {va vf vp vc:Value} (w:World) (hv:ObAt w va vf vp vc o) :
  Calls Tryz.prog 32 #[.agg #[va,vf,vp,vc],.int .i64 own,.agg #[.int .i64 6,.int .i64 a,.int .i64 b,.int .i64 c,.int .i64 d],.agg (stA s)] w (StepD o own (6,a,b,c,d) s w):=by
 obtain⟨A1,c1,rfl⟩:=CellsAt.form hv.atoms
 obtain⟨A2,cf,rfl⟩:=CellsAt.form hv.funs
 obtain⟨A3,cp,rfl⟩:=CellsAt.form hv.preds
 obtain⟨A4,c4,rfl⟩:=CellsAt.form hv.code
 have HV:=hD hv
 have HSs:=hD hs
 have HS0:=hD (SdW.start w #[.slice A1 o.atoms.length c1,.slice A2 o.funs.length cf,.slice A3 o.preds.length cp,.slice A4 o.code.length c4] #[.int .i64 6,.int .i64 a,.int .i64 b,.int .i64 c,.int .i64 d] (stA s) zeroA)
 have HZE:Hid (zeroA=#[.int .u32 0,.int .i64 0,.int .i64 0,.int .i64 0,.int .i64 0,.int .i64 0,.int .i64 0,.int .i64 0,.int .i64 0,.int .i64 0,.int .i64 0,.int .i64 0,.int .i64 0,.int .i64 0,.int .i64 0,.int .i64 0,.int .i64 0,.int .i64 0,.int .i64 0,.bool false,.bool false]):=hD rfl
 have HZS:Hid (zeroA.size=21):=hD rfl
 generalize zeroA=O at HS0 HZE HZS
 have HALT:=hD (fun h=>zl4 (o:=o) (ar:=arityP o own) (op:=6) (a:=a) (b:=b) (c:=c) (d:=d) (s:=s) h)
 have HPT:=hD (fun h=>zt4 (o:=o) (ar:=arityP o own) (op:=6) (a:=a) (b:=b) (c:=c) (d:=d) (s:=s) h rfl)
 clear hv
 go_enter Tryz.func32,Tryz.ntmps32
 go_upto_region 1 with(fail)
 rw [← HZE.out]
 obtain⟨w1,hw1⟩:∃ w1,(((w.alloc (.cells #[.slice A1 o.atoms.length c1,.slice A2 o.funs.length cf,.slice A3 o.preds.length cp,.slice A4 o.code.length c4] 27)).alloc (.cells #[.int .i64 6,.int .i64 a,.int .i64 b,.int .i64 c,.int .i64 d] 54)).alloc (.cells (stA s) 95)).alloc (.cells O 95)=w1:=⟨_,rfl⟩
 obtain⟨g,hg⟩:∃ g,w.heap.size=g:=⟨_,rfl⟩
 rw [hw1] at HS0 ⊢
 rw [hg] at HS0 ⊢
 clear hw1 HZE hg
 have i0:=HS0.out.ins.cell 0
 have i1:=HS0.out.ins.cell 1
 have i2:=HS0.out.ins.cell 2
 go_quiet (fail)
 have HS:=hD (HS0.out.drewN nq)
 obtain⟨w2,hw2⟩:∃ w2,w1.drewN nq=w2:=⟨_,rfl⟩
 rw [hw2] at HS ⊢
 clear hw2 HS0 i0 i1 i2
 have i0:=HS.out.ins.cell 0
 have i1:=HS.out.ins.cell 1
 have i2:=HS.out.ins.cell 2
 have i3:=HS.out.ins.cell 3
 have i4:=HS.out.ins.cell 4
 have q0:=HS.out.ob.cell 0
 have q1:=HS.out.ob.cell 1
 have q2:=HS.out.ob.cell 2
 have q3:=HS.out.ob.cell 3
 have x18:=HS.out.st.cell 18
 rw [zv HSs.out] at x18
 have x19:=HS.out.st.cell 19
 rw [zg1 HSs.out] at x19
 obtain⟨hr0,hr1⟩:=hi.rg (by simp)
 simp only at hr0 hr1
 obtain⟨al,hal⟩:∃ al,s.alt=al:=⟨_,rfl⟩
 rw [hal] at x19
 obtain⟨lf,hlv⟩:∃ lf,s.left=lf:=⟨_,rfl⟩
 rw [hlv] at x18 hlf
 have HAL:=hD hal
 have HLV:=hD hlv
 clear hal hlv
 by_cases hle:1≤lf
 ·have e0:¬ (lf<1):=by omega
  have e1:(lf == 0)=false:=beq_eq_false_iff_ne.2 (by omega)
  cases al with
  | true=>
   have HR:Hid (asksV o (arityP o own) (6,a,b,c,d) s=false):=hD (by exact HALT.out (by rw [HAL.out];decide))
   have HSZ:=hD (zg HSs.out)
   have H1:=hD (zp s)
   generalize hC:stA s=C at HS HSZ H1
   have HC:=hD hC
   clear hC
   go_upto_region 7 with(fail)
   go_wp2_with (first | (refine zb zr zd rfl (.tmp 7) rfl (g+1+1) 0 rfl C (zf HS.out.st) HSZ.out ?_) | (refine za zd rfl (.tmp 8) (.tmp 68) rfl (g+1+1+1) 0 C rfl rfl (zi HS.out.re (by rw [HZS.out];decide)) HSZ.out H1.out ?_))
   exact bodyPost_ret (zh rfl _ _ (g+1+1+1) C rfl (HS.out.fin (HSZ.out.trans HZS.out.symm)).1 HSZ.out) rfl (StepD.of s HSs.out HC.out (q:=false) HR.out rfl (fun h=>by rw [HR.out] at h;cases h) (HS.out.fin (HSZ.out.trans HZS.out.symm)).2)
  | false=>
   have HT:=hD (fun w=>zn6 hs a hr0 hr1 w)
   have HR0:Hid (asksV o (arityP o own) (6,a,b,c,d) s=mayV s a):=hD (by
    rw [(HPT.out (by rw [HAL.out];rfl))]
    unfold asksPart
    rw [if_neg (show ¬ (6:Int)=9 by decide),if_neg (by rw [HLV.out];omega),if_pos rfl])
   generalize mayV s a=bq at HT HR0
   cases bq with
   | false=>
    have HR:Hid (asksV o (arityP o own) (6,a,b,c,d) s=false):=hD HR0.out
    have HSZ:=hD (zg HSs.out)
    go_upto_region 6 with(fail)
    have hfl:True:=trivial
    go_upto_region 7 with(first | (go_at_call 64;refine(HT.out _).mono ?_;rintro e1 w5 ⟨rfl,hb5⟩;have HS:=hD (HS.out.up hb5);clear hb5;have i0:=HS.out.ins.cell 0;have i1:=HS.out.ins.cell 1;have i2:=HS.out.ins.cell 2;have i3:=HS.out.ins.cell 3;have i4:=HS.out.ins.cell 4;have q0:=HS.out.ob.cell 0;have q1:=HS.out.ob.cell 1;have q2:=HS.out.ob.cell 2;have q3:=HS.out.ob.cell 3) | (clear hfl;refine zw zr zd (by kernel_rfl) (.tmp 7) rfl (g+1+1) 0 rfl (stA s) (zf HS.out.st) HSZ.out ?_))
    clear HSZ
    have HSZ:=hD (zg HSs.out)
    have H1:=hD (zp s)
    generalize hC:stA s=C at HS HSZ H1
    have HC:=hD hC
    clear hC
    go_wp2_with (first | (refine zb zr zd rfl (.tmp 7) rfl (g+1+1) 0 rfl C (zf HS.out.st) HSZ.out ?_) | (refine za zd rfl (.tmp 8) (.tmp 68) rfl (g+1+1+1) 0 C rfl rfl (zi HS.out.re (by rw [HZS.out];decide)) HSZ.out H1.out ?_))
    exact bodyPost_ret (zh rfl _ _ (g+1+1+1) C rfl (HS.out.fin (HSZ.out.trans HZS.out.symm)).1 HSZ.out) rfl (StepD.of s HSs.out HC.out (q:=false) HR.out rfl (fun h=>by rw [HR.out] at h;cases h) (HS.out.fin (HSZ.out.trans HZS.out.symm)).2)
   | true=>
    have HR:Hid (asksV o (arityP o own) (6,a,b,c,d) s=true):=hD HR0.out
    have HSZ:=hD (zg HSs.out)
    have hwr:IntKind.i64.wrap (lf - 1)=lf - 1:=IntWalk.i64_in _ (by omega)
    go_upto_region 6 with(fail)
    have hfl:True:=trivial
    go_upto_region 8 with(first | (go_at_call 64;refine(HT.out _).mono ?_;rintro e1 w5 ⟨rfl,hb5⟩;have HS:=hD (HS.out.up hb5);clear hb5;have i0:=HS.out.ins.cell 0;have i1:=HS.out.ins.cell 1;have i2:=HS.out.ins.cell 2;have i3:=HS.out.ins.cell 3;have i4:=HS.out.ins.cell 4;have q0:=HS.out.ob.cell 0;have q1:=HS.out.ob.cell 1;have q2:=HS.out.ob.cell 2;have q3:=HS.out.ob.cell 3) | (clear hfl;refine zw zr zd (by kernel_rfl) (.tmp 7) rfl (g+1+1) 0 rfl (stA s) (zf HS.out.st) HSZ.out ?_))
    have HTM:=hD (fun w=>zs9 hs a hr0 hr1 w)
    have HSb:=hD (HSs.out.bec hr0 hr1)
    have HSZ2:=hD (zg HSb.out)
    have H12:=hD (zp (becV s a))
    go_upto_region 9 with(fail)
    go_upto_region 10 with(first | (refine zb zr zd rfl (.tmp 7) rfl (g+1+1) 0 rfl (stA s) (zf HS.out.st) HSZ.out ?_) | (go_at_call 66;refine(HTM.out _).mono ?_;rintro e1 w5 ⟨rfl,hb5⟩;have HS:=hD (HS.out.up hb5);clear hb5;have i0:=HS.out.ins.cell 0;have i1:=HS.out.ins.cell 1;have i2:=HS.out.ins.cell 2;have i3:=HS.out.ins.cell 3;have i4:=HS.out.ins.cell 4;have q0:=HS.out.ob.cell 0;have q1:=HS.out.ob.cell 1;have q2:=HS.out.ob.cell 2;have q3:=HS.out.ob.cell 3) | (refine za zd rfl (.tmp 7) (.tmp 74) rfl (g+1+1) 0 (stA (becV s a)) rfl rfl (zi HS.out.st (by rw [HSZ.out];decide)) HSZ2.out H12.out ?_;have HS:=hD (HS.out.put (HSZ2.out.trans HSZ.out.symm));have i0:=HS.out.ins.cell 0;have i1:=HS.out.ins.cell 1;have i2:=HS.out.ins.cell 2;have i3:=HS.out.ins.cell 3;have i4:=HS.out.ins.cell 4;have q0:=HS.out.ob.cell 0;have q1:=HS.out.ob.cell 1;have q2:=HS.out.ob.cell 2;have q3:=HS.out.ob.cell 3))
    generalize hwz:World.setCells _ (g+1+1) 0 (stA (becV s a)).toList=wz at HS i0 i1 i2 i3 i4 q0 q1 q2 q3 ⊢
    clear hwz HSZ
    have HSs:=HSb
    have x18:=HS.out.st.cell 18
    rw [zv HSs.out,zu4,HLV.out] at x18
    have z18:=HS.out.st.frozen 18
    go_upto_region 11 with(fail)
    have HS:=hD (HS.out.set 18 (.int .i64 (lf - 1)))
    rw [← zm1 HSs.out (lf - 1)] at HS
    have HSs:Hid (StOk { (becV s a) with left:=lf - 1 }):=hD ⟨HSs.out.y,HSs.out.x⟩
    have HSZ:=hD (zg HSs.out)
    have H1:=hD (zp { (becV s a) with left:=lf - 1 })
    generalize hC:stA { (becV s a) with left:=lf - 1 }=C at HS HSZ H1
    have HC:=hD hC
    clear hC
    go_wp2_with (first | (refine zb zr zd rfl (.tmp 7) rfl (g+1+1) 0 rfl C (zf HS.out.st) HSZ.out ?_) | (refine za zd rfl (.tmp 8) (.tmp 80) rfl (g+1+1+1) 0 C rfl rfl (zi HS.out.re (by rw [HZS.out];decide)) HSZ.out H1.out ?_))
    exact bodyPost_ret (zh rfl _ _ (g+1+1+1) C rfl (HS.out.fin (HSZ.out.trans HZS.out.symm)).1 HSZ.out) rfl (StepD.of { (becV s a) with left:=lf - 1 } HSs.out HC.out (q:=true) HR.out rfl (fun _=>by rw [← HLV.out];rfl) (HS.out.fin (HSZ.out.trans HZS.out.symm)).2)
 ·have HR:Hid (asksV o (arityP o own) (6,a,b,c,d) s=false):=hD (by 
   cases al with
   | true=>exact HALT.out (by rw [HAL.out];decide)
   | false=>
    rw [(HPT.out (by rw [HAL.out];rfl))]
    unfold asksPart
    rw [if_neg (show ¬ (6:Int)=9 by decide),if_pos (by rw [HLV.out];omega)])
  have e0:lf<1:=by omega
  have HSZ:=hD (zg HSs.out)
  have H1:=hD (zp s)
  generalize hC:stA s=C at HS HSZ H1
  have HC:=hD hC
  clear hC
  go_upto_region 7 with(fail)
  go_wp2_with (first | (refine zb zr zd rfl (.tmp 7) rfl (g+1+1) 0 rfl C (zf HS.out.st) HSZ.out ?_) | (refine za zd rfl (.tmp 8) (.tmp 68) rfl (g+1+1+1) 0 C rfl rfl (zi HS.out.re (by rw [HZS.out];decide)) HSZ.out H1.out ?_))
  exact bodyPost_ret (zh rfl _ _ (g+1+1+1) C rfl (HS.out.fin (HSZ.out.trans HZS.out.symm)).1 HSZ.out) rfl (StepD.of s HSs.out HC.out (q:=false) HR.out rfl (fun h=>by rw [HR.out] at h;cases h) (HS.out.fin (HSZ.out.trans HZS.out.symm)).2)
set_option maxHeartbeats 8000000 in
theorem rstep_7 {o:Ob} (ho:ObK o) {a b c d:Int} (hi:InsK o (7,a,b,c,d)) (own:Int) {s:VSt} (hs:StOk s) (hlf:0≤s.left∧s.left≤8) {va vf vp vc:Value} (w:World) (hv:ObAt w va vf vp vc o) :
  Calls Tryz.prog 32 #[.agg #[va,vf,vp,vc],.int .i64 own,.agg #[.int .i64 7,.int .i64 a,.int .i64 b,.int .i64 c,.int .i64 d],.agg (stA s)] w (StepD o own (7,a,b,c,d) s w):=by
 obtain⟨A1,c1,rfl⟩:=CellsAt.form hv.atoms
 obtain⟨A2,cf,rfl⟩:=CellsAt.form hv.funs
 obtain⟨A3,cp,rfl⟩:=CellsAt.form hv.preds
 obtain⟨A4,c4,rfl⟩:=CellsAt.form hv.code
 have HV:=hD hv
 have HSs:=hD hs
 have HS0:=hD (SdW.start w #[.slice A1 o.atoms.length c1,.slice A2 o.funs.length cf,.slice A3 o.preds.length cp,.slice A4 o.code.length c4] #[.int .i64 7,.int .i64 a,.int .i64 b,.int .i64 c,.int .i64 d] (stA s) zeroA)
 have HZE:Hid (zeroA=#[.int .u32 0,.int .i64 0,.int .i64 0,.int .i64 0,.int .i64 0,.int .i64 0,.int .i64 0,.int .i64 0,.int .i64 0,.int .i64 0,.int .i64 0,.int .i64 0,.int .i64 0,.int .i64 0,.int .i64 0,.int .i64 0,.int .i64 0,.int .i64 0,.int .i64 0,.bool false,.bool false]):=hD rfl
 have HZS:Hid (zeroA.size=21):=hD rfl
 generalize zeroA=O at HS0 HZE HZS
 have HALT:=hD (fun h=>zl4 (o:=o) (ar:=arityP o own) (op:=7) (a:=a) (b:=b) (c:=c) (d:=d) (s:=s) h)
 have HPT:=hD (fun h=>zt4 (o:=o) (ar:=arityP o own) (op:=7) (a:=a) (b:=b) (c:=c) (d:=d) (s:=s) h rfl)
 clear hv
 go_enter Tryz.func32,Tryz.ntmps32
 go_upto_region 1 with(fail)
 rw [← HZE.out]
 obtain⟨w1,hw1⟩:∃ w1,(((w.alloc (.cells #[.slice A1 o.atoms.length c1,.slice A2 o.funs.length cf,.slice A3 o.preds.length cp,.slice A4 o.code.length c4] 27)).alloc (.cells #[.int .i64 7,.int .i64 a,.int .i64 b,.int .i64 c,.int .i64 d] 54)).alloc (.cells (stA s) 95)).alloc (.cells O 95)=w1:=⟨_,rfl⟩
 obtain⟨g,hg⟩:∃ g,w.heap.size=g:=⟨_,rfl⟩
 rw [hw1] at HS0 ⊢
 rw [hg] at HS0 ⊢
 clear hw1 HZE hg
 have i0:=HS0.out.ins.cell 0
 have i1:=HS0.out.ins.cell 1
 have i2:=HS0.out.ins.cell 2
 go_quiet (fail)
 have HS:=hD (HS0.out.drewN nq)
 obtain⟨w2,hw2⟩:∃ w2,w1.drewN nq=w2:=⟨_,rfl⟩
 rw [hw2] at HS ⊢
 clear hw2 HS0 i0 i1 i2
 have i0:=HS.out.ins.cell 0
 have i1:=HS.out.ins.cell 1
 have i2:=HS.out.ins.cell 2
 have i3:=HS.out.ins.cell 3
 have i4:=HS.out.ins.cell 4
 have q0:=HS.out.ob.cell 0
 have q1:=HS.out.ob.cell 1
 have q2:=HS.out.ob.cell 2
 have q3:=HS.out.ob.cell 3
 have x18:=HS.out.st.cell 18
 rw [zv HSs.out] at x18
 have x19:=HS.out.st.cell 19
 rw [zg1 HSs.out] at x19
 obtain⟨hr0,hr1⟩:=hi.rg (by simp)
 simp only at hr0 hr1
 obtain⟨al,hal⟩:∃ al,s.alt=al:=⟨_,rfl⟩
 rw [hal] at x19
 obtain⟨lf,hlv⟩:∃ lf,s.left=lf:=⟨_,rfl⟩
 rw [hlv] at x18 hlf
 have HAL:=hD hal
 have HLV:=hD hlv
 clear hal hlv
 by_cases hle:1≤lf
 ·have e0:¬ (lf<1):=by omega
  have e1:(lf == 0)=false:=beq_eq_false_iff_ne.2 (by omega)
  cases al with
  | true=>
   have HR:Hid (asksV o (arityP o own) (7,a,b,c,d) s=false):=hD (by exact HALT.out (by rw [HAL.out];decide))
   have HSZ:=hD (zg HSs.out)
   have H1:=hD (zp s)
   generalize hC:stA s=C at HS HSZ H1
   have HC:=hD hC
   clear hC
   go_upto_region 7 with(fail)
   go_wp2_with (first | (refine zb zr zd rfl (.tmp 7) rfl (g+1+1) 0 rfl C (zf HS.out.st) HSZ.out ?_) | (refine za zd rfl (.tmp 8) (.tmp 68) rfl (g+1+1+1) 0 C rfl rfl (zi HS.out.re (by rw [HZS.out];decide)) HSZ.out H1.out ?_))
   exact bodyPost_ret (zh rfl _ _ (g+1+1+1) C rfl (HS.out.fin (HSZ.out.trans HZS.out.symm)).1 HSZ.out) rfl (StepD.of s HSs.out HC.out (q:=false) HR.out rfl (fun h=>by rw [HR.out] at h;cases h) (HS.out.fin (HSZ.out.trans HZS.out.symm)).2)
  | false=>
   have HT:=hD (fun w=>zq5 hs a hr0 hr1 w)
   have HR0:Hid (asksV o (arityP o own) (7,a,b,c,d) s=termV s a):=hD (by
    rw [(HPT.out (by rw [HAL.out];rfl))]
    unfold asksPart
    rw [if_neg (show ¬ (7:Int)=9 by decide),if_neg (by rw [HLV.out];omega),if_neg (show ¬ (7:Int)=6 by decide),if_pos rfl])
   generalize termV s a=bq at HT HR0
   cases bq with
   | false=>
    have HR:Hid (asksV o (arityP o own) (7,a,b,c,d) s=false):=hD HR0.out
    have HSZ:=hD (zg HSs.out)
    go_upto_region 6 with(fail)
    go_upto_region 7 with(first | (go_at_call 65;refine(HT.out _).mono ?_;rintro e1 w5 ⟨rfl,hb5⟩;have HS:=hD (HS.out.up hb5);clear hb5;have i0:=HS.out.ins.cell 0;have i1:=HS.out.ins.cell 1;have i2:=HS.out.ins.cell 2;have i3:=HS.out.ins.cell 3;have i4:=HS.out.ins.cell 4;have q0:=HS.out.ob.cell 0;have q1:=HS.out.ob.cell 1;have q2:=HS.out.ob.cell 2;have q3:=HS.out.ob.cell 3) | (refine zw zr zd (by rfl) (.tmp 7) rfl (g+1+1) 0 rfl (stA s) (zf HS.out.st) HSZ.out ?_))
    clear HSZ
    have HSZ:=hD (zg HSs.out)
    have H1:=hD (zp s)
    generalize hC:stA s=C at HS HSZ H1
    have HC:=hD hC
    clear hC
    go_wp2_with (first | (refine zb zr zd rfl (.tmp 7) rfl (g+1+1) 0 rfl C (zf HS.out.st) HSZ.out ?_) | (refine za zd rfl (.tmp 8) (.tmp 68) rfl (g+1+1+1) 0 C rfl rfl (zi HS.out.re (by rw [HZS.out];decide)) HSZ.out H1.out ?_))
    exact bodyPost_ret (zh rfl _ _ (g+1+1+1) C rfl (HS.out.fin (HSZ.out.trans HZS.out.symm)).1 HSZ.out) rfl (StepD.of s HSs.out HC.out (q:=false) HR.out rfl (fun h=>by rw [HR.out] at h;cases h) (HS.out.fin (HSZ.out.trans HZS.out.symm)).2)
   | true=>
    have HR:Hid (asksV o (arityP o own) (7,a,b,c,d) s=true):=hD HR0.out
    have HSZ:=hD (zg HSs.out)
    have hwr:IntKind.i64.wrap (lf - 1)=lf - 1:=IntWalk.i64_in _ (by omega)
    go_upto_region 6 with(fail)
    go_upto_region 8 with(first | (go_at_call 65;refine(HT.out _).mono ?_;rintro e1 w5 ⟨rfl,hb5⟩;have HS:=hD (HS.out.up hb5);clear hb5;have i0:=HS.out.ins.cell 0;have i1:=HS.out.ins.cell 1;have i2:=HS.out.ins.cell 2;have i3:=HS.out.ins.cell 3;have i4:=HS.out.ins.cell 4;have q0:=HS.out.ob.cell 0;have q1:=HS.out.ob.cell 1;have q2:=HS.out.ob.cell 2;have q3:=HS.out.ob.cell 3) | (refine zw zr zd (by rfl) (.tmp 7) rfl (g+1+1) 0 rfl (stA s) (zf HS.out.st) HSZ.out ?_))
    go_upto_region 10 with(fail)
    clear HSZ
    have x18:=HS.out.st.cell 18
    rw [zv HSs.out,HLV.out] at x18
    have z18:=HS.out.st.frozen 18
    go_upto_region 11 with(fail)
    have HS:=hD (HS.out.set 18 (.int .i64 (lf - 1)))
    rw [← zm1 HSs.out (lf - 1)] at HS
    have HSs:Hid (StOk { s with left:=lf - 1 }):=hD ⟨HSs.out.y,HSs.out.x⟩
    have HSZ:=hD (zg HSs.out)
    have H1:=hD (zp { s with left:=lf - 1 })
    generalize hC:stA { s with left:=lf - 1 }=C at HS HSZ H1
    have HC:=hD hC
    clear hC
    go_wp2_with (first | (refine zb zr zd rfl (.tmp 7) rfl (g+1+1) 0 rfl C (zf HS.out.st) HSZ.out ?_) | (refine za zd rfl (.tmp 8) (.tmp 80) rfl (g+1+1+1) 0 C rfl rfl (zi HS.out.re (by rw [HZS.out];decide)) HSZ.out H1.out ?_))
    exact bodyPost_ret (zh rfl _ _ (g+1+1+1) C rfl (HS.out.fin (HSZ.out.trans HZS.out.symm)).1 HSZ.out) rfl (StepD.of { s with left:=lf - 1 } HSs.out HC.out (q:=true) HR.out rfl (fun _=>by rw [← HLV.out];rfl) (HS.out.fin (HSZ.out.trans HZS.out.symm)).2)
 ·have HR:Hid (asksV o (arityP o own) (7,a,b,c,d) s=false):=hD (by 
   cases al with
   | true=>exact HALT.out (by rw [HAL.out];decide)
   | false=>
    rw [(HPT.out (by rw [HAL.out];rfl))]
    unfold asksPart
    rw [if_neg (show ¬ (7:Int)=9 by decide),if_pos (by rw [HLV.out];omega)])
  have e0:lf<1:=by omega
  have HSZ:=hD (zg HSs.out)
  have H1:=hD (zp s)
  generalize hC:stA s=C at HS HSZ H1
  have HC:=hD hC
  clear hC
  go_upto_region 7 with(fail)
  go_wp2_with (first | (refine zb zr zd rfl (.tmp 7) rfl (g+1+1) 0 rfl C (zf HS.out.st) HSZ.out ?_) | (refine za zd rfl (.tmp 8) (.tmp 68) rfl (g+1+1+1) 0 C rfl rfl (zi HS.out.re (by rw [HZS.out];decide)) HSZ.out H1.out ?_))
  exact bodyPost_ret (zh rfl _ _ (g+1+1+1) C rfl (HS.out.fin (HSZ.out.trans HZS.out.symm)).1 HSZ.out) rfl (StepD.of s HSs.out HC.out (q:=false) HR.out rfl (fun h=>by rw [HR.out] at h;cases h) (HS.out.fin (HSZ.out.trans HZS.out.symm)).2)
set_option maxHeartbeats 8000000 in
theorem rstep_8 {o:Ob} (ho:ObK o) {a b c d:Int} (hi:InsK o (8,a,b,c,d)) (own:Int) {s:VSt} (hs:StOk s) (hlf:0≤s.left∧s.left≤8) {va vf vp vc:Value} (w:World) (hv:ObAt w va vf vp vc o) :
  Calls Tryz.prog 32 #[.agg #[va,vf,vp,vc],.int .i64 own,.agg #[.int .i64 8,.int .i64 a,.int .i64 b,.int .i64 c,.int .i64 d],.agg (stA s)] w (StepD o own (8,a,b,c,d) s w):=by
 obtain⟨A1,c1,rfl⟩:=CellsAt.form hv.atoms
 obtain⟨A2,cf,rfl⟩:=CellsAt.form hv.funs
 obtain⟨A3,cp,rfl⟩:=CellsAt.form hv.preds
 obtain⟨A4,c4,rfl⟩:=CellsAt.form hv.code
 have HV:=hD hv
 have HSs:=hD hs
 have HS0:=hD (SdW.start w #[.slice A1 o.atoms.length c1,.slice A2 o.funs.length cf,.slice A3 o.preds.length cp,.slice A4 o.code.length c4] #[.int .i64 8,.int .i64 a,.int .i64 b,.int .i64 c,.int .i64 d] (stA s) zeroA)
 have HZE:Hid (zeroA=#[.int .u32 0,.int .i64 0,.int .i64 0,.int .i64 0,.int .i64 0,.int .i64 0,.int .i64 0,.int .i64 0,.int .i64 0,.int .i64 0,.int .i64 0,.int .i64 0,.int .i64 0,.int .i64 0,.int .i64 0,.int .i64 0,.int .i64 0,.int .i64 0,.int .i64 0,.bool false,.bool false]):=hD rfl
 have HZS:Hid (zeroA.size=21):=hD rfl
 generalize zeroA=O at HS0 HZE HZS
 have HALT:=hD (fun h=>zl4 (o:=o) (ar:=arityP o own) (op:=8) (a:=a) (b:=b) (c:=c) (d:=d) (s:=s) h)
 have HPT:=hD (fun h=>zt4 (o:=o) (ar:=arityP o own) (op:=8) (a:=a) (b:=b) (c:=c) (d:=d) (s:=s) h rfl)
 clear hv
 go_enter Tryz.func32,Tryz.ntmps32
 go_upto_region 1 with(fail)
 rw [← HZE.out]
 obtain⟨w1,hw1⟩:∃ w1,(((w.alloc (.cells #[.slice A1 o.atoms.length c1,.slice A2 o.funs.length cf,.slice A3 o.preds.length cp,.slice A4 o.code.length c4] 27)).alloc (.cells #[.int .i64 8,.int .i64 a,.int .i64 b,.int .i64 c,.int .i64 d] 54)).alloc (.cells (stA s) 95)).alloc (.cells O 95)=w1:=⟨_,rfl⟩
 obtain⟨g,hg⟩:∃ g,w.heap.size=g:=⟨_,rfl⟩
 rw [hw1] at HS0 ⊢
 rw [hg] at HS0 ⊢
 clear hw1 HZE hg
 have i0:=HS0.out.ins.cell 0
 have i1:=HS0.out.ins.cell 1
 have i2:=HS0.out.ins.cell 2
 go_quiet (fail)
 have HS:=hD (HS0.out.drewN nq)
 obtain⟨w2,hw2⟩:∃ w2,w1.drewN nq=w2:=⟨_,rfl⟩
 rw [hw2] at HS ⊢
 clear hw2 HS0 i0 i1 i2
 have i0:=HS.out.ins.cell 0
 have i1:=HS.out.ins.cell 1
 have i2:=HS.out.ins.cell 2
 have i3:=HS.out.ins.cell 3
 have i4:=HS.out.ins.cell 4
 have q0:=HS.out.ob.cell 0
 have q1:=HS.out.ob.cell 1
 have q2:=HS.out.ob.cell 2
 have q3:=HS.out.ob.cell 3
 have x18:=HS.out.st.cell 18
 rw [zv HSs.out] at x18
 have x19:=HS.out.st.cell 19
 rw [zg1 HSs.out] at x19
 obtain⟨al,hal⟩:∃ al,s.alt=al:=⟨_,rfl⟩
 rw [hal] at x19
 obtain⟨lf,hlv⟩:∃ lf,s.left=lf:=⟨_,rfl⟩
 rw [hlv] at x18 hlf
 have HAL:=hD hal
 have HLV:=hD hlv
 clear hal hlv
 by_cases hle:1≤lf
 ·have e0:¬ (lf<1):=by omega
  have e1:(lf == 0)=false:=beq_eq_false_iff_ne.2 (by omega)
  cases al with
  | true=>
   have HR:Hid (asksV o (arityP o own) (8,a,b,c,d) s=false):=hD (by exact HALT.out (by rw [HAL.out];decide))
   have HSZ:=hD (zg HSs.out)
   have H1:=hD (zp s)
   generalize hC:stA s=C at HS HSZ H1
   have HC:=hD hC
   clear hC
   go_upto_region 7 with(fail)
   go_wp2_with (first | (refine zb zr zd rfl (.tmp 7) rfl (g+1+1) 0 rfl C (zf HS.out.st) HSZ.out ?_) | (refine za zd rfl (.tmp 8) (.tmp 68) rfl (g+1+1+1) 0 C rfl rfl (zi HS.out.re (by rw [HZS.out];decide)) HSZ.out H1.out ?_))
   exact bodyPost_ret (zh rfl _ _ (g+1+1+1) C rfl (HS.out.fin (HSZ.out.trans HZS.out.symm)).1 HSZ.out) rfl (StepD.of s HSs.out HC.out (q:=false) HR.out rfl (fun h=>by rw [HR.out] at h;cases h) (HS.out.fin (HSZ.out.trans HZS.out.symm)).2)
  | false=>
   have HR:Hid (asksV o (arityP o own) (8,a,b,c,d) s=true):=hD (by
    rw [(HPT.out (by rw [HAL.out];rfl))]
    unfold asksPart
    rw [if_neg (show ¬ (8:Int)=9 by decide),if_neg (by rw [HLV.out];omega),if_neg (show ¬ (8:Int)=6 by decide),if_neg (show ¬ (8:Int)=7 by decide)])
   have hwr:IntKind.i64.wrap (lf - 1)=lf - 1:=IntWalk.i64_in _ (by omega)
   go_upto_region 10 with(fail)
   have x18:=HS.out.st.cell 18
   rw [zv HSs.out,HLV.out] at x18
   have z18:=HS.out.st.frozen 18
   go_upto_region 11 with(fail)
   have HS:=hD (HS.out.set 18 (.int .i64 (lf - 1)))
   rw [← zm1 HSs.out (lf - 1)] at HS
   have HSs:Hid (StOk { s with left:=lf - 1 }):=hD ⟨HSs.out.y,HSs.out.x⟩
   have HSZ:=hD (zg HSs.out)
   have H1:=hD (zp { s with left:=lf - 1 })
   generalize hC:stA { s with left:=lf - 1 }=C at HS HSZ H1
   have HC:=hD hC
   clear hC
   go_wp2_with (first | (refine zb zr zd rfl (.tmp 7) rfl (g+1+1) 0 rfl C (zf HS.out.st) HSZ.out ?_) | (refine za zd rfl (.tmp 8) (.tmp 80) rfl (g+1+1+1) 0 C rfl rfl (zi HS.out.re (by rw [HZS.out];decide)) HSZ.out H1.out ?_))
   exact bodyPost_ret (zh rfl _ _ (g+1+1+1) C rfl (HS.out.fin (HSZ.out.trans HZS.out.symm)).1 HSZ.out) rfl (StepD.of { s with left:=lf - 1 } HSs.out HC.out (q:=true) HR.out rfl (fun _=>by rw [← HLV.out];rfl) (HS.out.fin (HSZ.out.trans HZS.out.symm)).2)
 ·have HR:Hid (asksV o (arityP o own) (8,a,b,c,d) s=false):=hD (by 
   cases al with
   | true=>exact HALT.out (by rw [HAL.out];decide)
   | false=>
    rw [(HPT.out (by rw [HAL.out];rfl))]
    unfold asksPart
    rw [if_neg (show ¬ (8:Int)=9 by decide),if_pos (by rw [HLV.out];omega)])
  have e0:lf<1:=by omega
  have HSZ:=hD (zg HSs.out)
  have H1:=hD (zp s)
  generalize hC:stA s=C at HS HSZ H1
  have HC:=hD hC
  clear hC
  go_upto_region 7 with(fail)
  go_wp2_with (first | (refine zb zr zd rfl (.tmp 7) rfl (g+1+1) 0 rfl C (zf HS.out.st) HSZ.out ?_) | (refine za zd rfl (.tmp 8) (.tmp 68) rfl (g+1+1+1) 0 C rfl rfl (zi HS.out.re (by rw [HZS.out];decide)) HSZ.out H1.out ?_))
  exact bodyPost_ret (zh rfl _ _ (g+1+1+1) C rfl (HS.out.fin (HSZ.out.trans HZS.out.symm)).1 HSZ.out) rfl (StepD.of s HSs.out HC.out (q:=false) HR.out rfl (fun h=>by rw [HR.out] at h;cases h) (HS.out.fin (HSZ.out.trans HZS.out.symm)).2)
set_option maxHeartbeats 8000000 in
theorem rstep_9 {o:Ob} (ho:ObK o) {a b c d:Int} (hi:InsK o (9,a,b,c,d)) (own:Int) {s:VSt} (hs:StOk s) (hlf:0≤s.left∧s.left≤8) {va vf vp vc:Value} (w:World) (hv:ObAt w va vf vp vc o) :
  Calls Tryz.prog 32 #[.agg #[va,vf,vp,vc],.int .i64 own,.agg #[.int .i64 9,.int .i64 a,.int .i64 b,.int .i64 c,.int .i64 d],.agg (stA s)] w (StepD o own (9,a,b,c,d) s w):=by
 obtain⟨A1,c1,rfl⟩:=CellsAt.form hv.atoms
 obtain⟨A2,cf,rfl⟩:=CellsAt.form hv.funs
 obtain⟨A3,cp,rfl⟩:=CellsAt.form hv.preds
 obtain⟨A4,c4,rfl⟩:=CellsAt.form hv.code
 have HV:=hD hv
 have HSs:=hD hs
 have HS0:=hD (SdW.start w #[.slice A1 o.atoms.length c1,.slice A2 o.funs.length cf,.slice A3 o.preds.length cp,.slice A4 o.code.length c4] #[.int .i64 9,.int .i64 a,.int .i64 b,.int .i64 c,.int .i64 d] (stA s) zeroA)
 have HZE:Hid (zeroA=#[.int .u32 0,.int .i64 0,.int .i64 0,.int .i64 0,.int .i64 0,.int .i64 0,.int .i64 0,.int .i64 0,.int .i64 0,.int .i64 0,.int .i64 0,.int .i64 0,.int .i64 0,.int .i64 0,.int .i64 0,.int .i64 0,.int .i64 0,.int .i64 0,.int .i64 0,.bool false,.bool false]):=hD rfl
 have HZS:Hid (zeroA.size=21):=hD rfl
 generalize zeroA=O at HS0 HZE HZS
 have HALT:=hD (fun h=>zl4 (o:=o) (ar:=arityP o own) (op:=9) (a:=a) (b:=b) (c:=c) (d:=d) (s:=s) h)
 have HPT:=hD (fun h=>zt4 (o:=o) (ar:=arityP o own) (op:=9) (a:=a) (b:=b) (c:=c) (d:=d) (s:=s) h rfl)
 clear hv
 go_enter Tryz.func32,Tryz.ntmps32
 go_upto_region 1 with(fail)
 rw [← HZE.out]
 obtain⟨w1,hw1⟩:∃ w1,(((w.alloc (.cells #[.slice A1 o.atoms.length c1,.slice A2 o.funs.length cf,.slice A3 o.preds.length cp,.slice A4 o.code.length c4] 27)).alloc (.cells #[.int .i64 9,.int .i64 a,.int .i64 b,.int .i64 c,.int .i64 d] 54)).alloc (.cells (stA s) 95)).alloc (.cells O 95)=w1:=⟨_,rfl⟩
 obtain⟨g,hg⟩:∃ g,w.heap.size=g:=⟨_,rfl⟩
 rw [hw1] at HS0 ⊢
 rw [hg] at HS0 ⊢
 clear hw1 HZE hg
 have i0:=HS0.out.ins.cell 0
 have i1:=HS0.out.ins.cell 1
 have i2:=HS0.out.ins.cell 2
 go_quiet (fail)
 have HS:=hD (HS0.out.drewN nq)
 obtain⟨w2,hw2⟩:∃ w2,w1.drewN nq=w2:=⟨_,rfl⟩
 rw [hw2] at HS ⊢
 clear hw2 HS0 i0 i1 i2
 have i0:=HS.out.ins.cell 0
 have i1:=HS.out.ins.cell 1
 have i2:=HS.out.ins.cell 2
 have i3:=HS.out.ins.cell 3
 have i4:=HS.out.ins.cell 4
 have q0:=HS.out.ob.cell 0
 have q1:=HS.out.ob.cell 1
 have q2:=HS.out.ob.cell 2
 have q3:=HS.out.ob.cell 3
 have x18:=HS.out.st.cell 18
 rw [zv HSs.out] at x18
 have x19:=HS.out.st.cell 19
 rw [zg1 HSs.out] at x19
 have hva:=hi.va rfl
 simp only at hva
 obtain⟨al,hal⟩:∃ al,s.alt=al:=⟨_,rfl⟩
 rw [hal] at x19
 obtain⟨lf,hlv⟩:∃ lf,s.left=lf:=⟨_,rfl⟩
 rw [hlv] at x18 hlf
 have HAL:=hD hal
 have HLV:=hD hlv
 clear hal hlv
 by_cases hle:a≤lf
 ·have e0:¬ (lf<a):=by omega
  have e1:(lf == 0)=false:=beq_eq_false_iff_ne.2 (by omega)
  cases al with
  | true=>
   have HR:Hid (asksV o (arityP o own) (9,a,b,c,d) s=false):=hD (by exact HALT.out (by rw [HAL.out];decide))
   have HSZ:=hD (zg HSs.out)
   have H1:=hD (zp s)
   generalize hC:stA s=C at HS HSZ H1
   have HC:=hD hC
   clear hC
   go_upto_region 7 with(fail)
   go_wp2_with (first | (refine zb zr zd rfl (.tmp 7) rfl (g+1+1) 0 rfl C (zf HS.out.st) HSZ.out ?_) | (refine za zd rfl (.tmp 8) (.tmp 68) rfl (g+1+1+1) 0 C rfl rfl (zi HS.out.re (by rw [HZS.out];decide)) HSZ.out H1.out ?_))
   exact bodyPost_ret (zh rfl _ _ (g+1+1+1) C rfl (HS.out.fin (HSZ.out.trans HZS.out.symm)).1 HSZ.out) rfl (StepD.of s HSs.out HC.out (q:=false) HR.out rfl (fun h=>by rw [HR.out] at h;cases h) (HS.out.fin (HSZ.out.trans HZS.out.symm)).2)
  | false=>
   have HR:Hid (asksV o (arityP o own) (9,a,b,c,d) s=true):=hD (by
    rw [(HPT.out (by rw [HAL.out];rfl))]
    exact decide_eq_true (by rw [HLV.out];exact hle))
   have hwr:IntKind.i64.wrap (lf - a)=lf - a:=IntWalk.i64_in _ (by omega)
   go_upto_region 10 with(fail)
   have x18:=HS.out.st.cell 18
   rw [zv HSs.out,HLV.out] at x18
   have z18:=HS.out.st.frozen 18
   go_upto_region 11 with(fail)
   have HS:=hD (HS.out.set 18 (.int .i64 (lf - a)))
   rw [← zm1 HSs.out (lf - a)] at HS
   have HSs:Hid (StOk { s with left:=lf - a }):=hD ⟨HSs.out.y,HSs.out.x⟩
   have HSZ:=hD (zg HSs.out)
   have H1:=hD (zp { s with left:=lf - a })
   generalize hC:stA { s with left:=lf - a }=C at HS HSZ H1
   have HC:=hD hC
   clear hC
   go_wp2_with (first | (refine zb zr zd rfl (.tmp 7) rfl (g+1+1) 0 rfl C (zf HS.out.st) HSZ.out ?_) | (refine za zd rfl (.tmp 8) (.tmp 80) rfl (g+1+1+1) 0 C rfl rfl (zi HS.out.re (by rw [HZS.out];decide)) HSZ.out H1.out ?_))
   exact bodyPost_ret (zh rfl _ _ (g+1+1+1) C rfl (HS.out.fin (HSZ.out.trans HZS.out.symm)).1 HSZ.out) rfl (StepD.of { s with left:=lf - a } HSs.out HC.out (q:=true) HR.out rfl (fun _=>by rw [← HLV.out];rfl) (HS.out.fin (HSZ.out.trans HZS.out.symm)).2)
 ·have HR:Hid (asksV o (arityP o own) (9,a,b,c,d) s=false):=hD (by 
   cases al with
   | true=>exact HALT.out (by rw [HAL.out];decide)
   | false=>
    rw [(HPT.out (by rw [HAL.out];rfl))]
    exact decide_eq_false (by rw [HLV.out];exact hle))
  have e0:lf<a:=by omega
  have HSZ:=hD (zg HSs.out)
  have H1:=hD (zp s)
  generalize hC:stA s=C at HS HSZ H1
  have HC:=hD hC
  clear hC
  go_upto_region 7 with(fail)
  go_wp2_with (first | (refine zb zr zd rfl (.tmp 7) rfl (g+1+1) 0 rfl C (zf HS.out.st) HSZ.out ?_) | (refine za zd rfl (.tmp 8) (.tmp 68) rfl (g+1+1+1) 0 C rfl rfl (zi HS.out.re (by rw [HZS.out];decide)) HSZ.out H1.out ?_))
  exact bodyPost_ret (zh rfl _ _ (g+1+1+1) C rfl (HS.out.fin (HSZ.out.trans HZS.out.symm)).1 HSZ.out) rfl (StepD.of s HSs.out HC.out (q:=false) HR.out rfl (fun h=>by rw [HR.out] at h;cases h) (HS.out.fin (HSZ.out.trans HZS.out.symm)).2)
end Go.Proofs.YtlmbiafloiompaaGreatDoor
