/-
 The document's step (layer 11): of whatever instruction. Conditions: an object that may be,an instruction of it,a place in some predicate's code.
-/
import Derived.Test.YtlmbiafloiompaaGreatDoorJL21
namespace Go.Proofs.YtlmbiafloiompaaGreatDoor
open Go Go.RowKit
set_option linter.unusedVariables false
set_option linter.unusedSimpArgs false
set_option maxRecDepth 100000
set_option maxHeartbeats 8000000 in
theorem rstep_bad {o:Ob} {s:VSt} {op a b c d:Int} (hpv:partV op=false) (h:s.left≠0 ∨ s.alt≠(decide (op=21) || decide (op=22))) (own:Int) (hs:StOk s) {va vf vp vc:Value} (w:World) (hv:ObAt w va vf vp vc o) :
  Calls Tryz.prog 32 #[.agg #[va,vf,vp,vc],.int .i64 own,.agg #[.int .i64 op,.int .i64 a,.int .i64 b,.int .i64 c,.int .i64 d],.agg (stA s)] w (StepD o own (op,a,b,c,d) s w):=by
 obtain⟨A1,c1,rfl⟩:=CellsAt.form hv.atoms
 obtain⟨A2,cf,rfl⟩:=CellsAt.form hv.funs
 obtain⟨A3,cp,rfl⟩:=CellsAt.form hv.preds
 obtain⟨A4,c4,rfl⟩:=CellsAt.form hv.code
 have HV:=hD hv
 have HSs:=hD hs
 have HR:Hid (asksV o (arityP o own) (op,a,b,c,d) s=false):=hD (by rcases h with h | h;exact zy17 hpv h;exact zl4 h)
 have HS0:=hD (SdW.start w #[.slice A1 o.atoms.length c1,.slice A2 o.funs.length cf,.slice A3 o.preds.length cp,.slice A4 o.code.length c4] #[.int .i64 op,.int .i64 a,.int .i64 b,.int .i64 c,.int .i64 d] (stA s) zeroA)
 have HZE:Hid (zeroA=#[.int .u32 0,.int .i64 0,.int .i64 0,.int .i64 0,.int .i64 0,.int .i64 0,.int .i64 0,.int .i64 0,.int .i64 0,.int .i64 0,.int .i64 0,.int .i64 0,.int .i64 0,.int .i64 0,.int .i64 0,.int .i64 0,.int .i64 0,.int .i64 0,.int .i64 0,.bool false,.bool false]):=hD rfl
 have HZS:Hid (zeroA.size=21):=hD rfl
 generalize zeroA=O at HS0 HZE HZS
 
 clear hv
 go_enter Tryz.func32,Tryz.ntmps32
 go_upto_region 1 with(fail)
 rw [← HZE.out]
 obtain⟨w1,hw1⟩:∃ w1,(((w.alloc (.cells #[.slice A1 o.atoms.length c1,.slice A2 o.funs.length cf,.slice A3 o.preds.length cp,.slice A4 o.code.length c4] 27)).alloc (.cells #[.int .i64 op,.int .i64 a,.int .i64 b,.int .i64 c,.int .i64 d] 54)).alloc (.cells (stA s) 95)).alloc (.cells O 95)=w1:=⟨_,rfl⟩
 obtain⟨g,hg⟩:∃ g,w.heap.size=g:=⟨_,rfl⟩
 rw [hw1] at HS0 ⊢
 rw [hg] at HS0 ⊢
 clear hw1 HZE hg
 have i0:=HS0.out.ins.cell 0
 have i1:=HS0.out.ins.cell 1
 have i2:=HS0.out.ins.cell 2
 go_quiet (fail)
 have HS:=hD (HS0.out.drewN nq)
 obtain⟨w2,hw2⟩:∃ w2,w1.drewN nq=w2:=⟨_,rfl⟩
 rw [hw2] at HS ⊢
 clear hw2 HS0 i0 i1 i2
 have i0:=HS.out.ins.cell 0
 have i1:=HS.out.ins.cell 1
 have i2:=HS.out.ins.cell 2
 have i3:=HS.out.ins.cell 3
 have i4:=HS.out.ins.cell 4
 have q0:=HS.out.ob.cell 0
 have q1:=HS.out.ob.cell 1
 have q2:=HS.out.ob.cell 2
 have q3:=HS.out.ob.cell 3
 have x18:=HS.out.st.cell 18
 rw [zv HSs.out] at x18
 have x19:=HS.out.st.cell 19
 rw [zg1 HSs.out] at x19
 generalize s.left=lf at x18 h
 generalize s.alt=al at x19 h
 have hops:op<6 ∨ 9<op:=by
  unfold partV at hpv
  simp at hpv
  omega
 rcases hops with h6 | h9
 ·have f6:¬ (6≤op):=by omega
  have f21:(op == 21)=false:=beq_eq_false_iff_ne.2 (by omega)
  have f22:(op == 22)=false:=beq_eq_false_iff_ne.2 (by omega)
  have htw:(decide (op=21) || decide (op=22))=false:=by rw [decide_eq_false (by omega),decide_eq_false (by omega)];rfl
  rw [htw] at h
  by_cases hl:lf=0
  ·have hal:al=true:=by
    rcases h with h | h
    ·exact absurd hl h
    ·simpa using h
   subst hl hal
   have HSZ:=hD (zg HSs.out)
   have H1:=hD (zp s)
   generalize hC:stA s=C at HS HSZ H1
   have HC:=hD hC
   clear hC
   go_upto_region 13 with(fail)
   go_wp2_with (first | (refine zb zr zd rfl (.tmp 7) rfl (g+1+1) 0 rfl C (zf HS.out.st) HSZ.out ?_) | (refine za zd rfl (.tmp 8) (.tmp 97) rfl (g+1+1+1) 0 C rfl rfl (zi HS.out.re (by rw [HZS.out];decide)) HSZ.out H1.out ?_))
   exact bodyPost_ret (zh rfl _ _ (g+1+1+1) C rfl (HS.out.fin (HSZ.out.trans HZS.out.symm)).1 HSZ.out) rfl (StepD.of s HSs.out HC.out (q:=false) HR.out rfl (fun h=>by rw [HR.out] at h;cases h) (HS.out.fin (HSZ.out.trans HZS.out.symm)).2)
  ·have e1:(lf == 0)=false:=beq_eq_false_iff_ne.2 hl
   have e2:(lf != 0)=true:=bne_iff_ne.2 hl
   have HSZ:=hD (zg HSs.out)
   have H1:=hD (zp s)
   generalize hC:stA s=C at HS HSZ H1
   have HC:=hD hC
   clear hC
   go_upto_region 13 with(fail)
   go_wp2_with (first | (refine zb zr zd rfl (.tmp 7) rfl (g+1+1) 0 rfl C (zf HS.out.st) HSZ.out ?_) | (refine za zd rfl (.tmp 8) (.tmp 97) rfl (g+1+1+1) 0 C rfl rfl (zi HS.out.re (by rw [HZS.out];decide)) HSZ.out H1.out ?_))
   exact bodyPost_ret (zh rfl _ _ (g+1+1+1) C rfl (HS.out.fin (HSZ.out.trans HZS.out.symm)).1 HSZ.out) rfl (StepD.of s HSs.out HC.out (q:=false) HR.out rfl (fun h=>by rw [HR.out] at h;cases h) (HS.out.fin (HSZ.out.trans HZS.out.symm)).2)
 ·have f6:6≤op:=by omega
  have f9:¬ (op≤9):=by omega
  by_cases hl:lf=0
  ·have ha:al≠(decide (op=21) || decide (op=22)):=by
    rcases h with h | h
    ·exact absurd hl h
    ·exact h
   subst hl
   clear h
   by_cases h21:op=21
   ·subst h21
    have hal:al=false:=by simpa using ha
    subst hal
    have HSZ:=hD (zg HSs.out)
    have H1:=hD (zp s)
    generalize hC:stA s=C at HS HSZ H1
    have HC:=hD hC
    clear hC
    go_upto_region 13 with(fail)
    go_wp2_with (first | (refine zb zr zd rfl (.tmp 7) rfl (g+1+1) 0 rfl C (zf HS.out.st) HSZ.out ?_) | (refine za zd rfl (.tmp 8) (.tmp 97) rfl (g+1+1+1) 0 C rfl rfl (zi HS.out.re (by rw [HZS.out];decide)) HSZ.out H1.out ?_))
    exact bodyPost_ret (zh rfl _ _ (g+1+1+1) C rfl (HS.out.fin (HSZ.out.trans HZS.out.symm)).1 HSZ.out) rfl (StepD.of s HSs.out HC.out (q:=false) HR.out rfl (fun h=>by rw [HR.out] at h;cases h) (HS.out.fin (HSZ.out.trans HZS.out.symm)).2)
   ·by_cases h22:op=22
    ·subst h22
     have hal:al=false:=by simpa using ha
     subst hal
     have HSZ:=hD (zg HSs.out)
     have H1:=hD (zp s)
     generalize hC:stA s=C at HS HSZ H1
     have HC:=hD hC
     clear hC
     go_upto_region 13 with(fail)
     go_wp2_with (first | (refine zb zr zd rfl (.tmp 7) rfl (g+1+1) 0 rfl C (zf HS.out.st) HSZ.out ?_) | (refine za zd rfl (.tmp 8) (.tmp 97) rfl (g+1+1+1) 0 C rfl rfl (zi HS.out.re (by rw [HZS.out];decide)) HSZ.out H1.out ?_))
     exact bodyPost_ret (zh rfl _ _ (g+1+1+1) C rfl (HS.out.fin (HSZ.out.trans HZS.out.symm)).1 HSZ.out) rfl (StepD.of s HSs.out HC.out (q:=false) HR.out rfl (fun h=>by rw [HR.out] at h;cases h) (HS.out.fin (HSZ.out.trans HZS.out.symm)).2)
    ·have f21:(op == 21)=false:=beq_eq_false_iff_ne.2 h21
     have f22:(op == 22)=false:=beq_eq_false_iff_ne.2 h22
     have hal:al=true:=by
      rw [decide_eq_false h21,decide_eq_false h22] at ha
      simpa using ha
     subst hal
     clear ha
     have HSZ:=hD (zg HSs.out)
     have H1:=hD (zp s)
     generalize hC:stA s=C at HS HSZ H1
     have HC:=hD hC
     clear hC
     go_upto_region 13 with(fail)
     go_wp2_with (first | (refine zb zr zd rfl (.tmp 7) rfl (g+1+1) 0 rfl C (zf HS.out.st) HSZ.out ?_) | (refine za zd rfl (.tmp 8) (.tmp 97) rfl (g+1+1+1) 0 C rfl rfl (zi HS.out.re (by rw [HZS.out];decide)) HSZ.out H1.out ?_))
     exact bodyPost_ret (zh rfl _ _ (g+1+1+1) C rfl (HS.out.fin (HSZ.out.trans HZS.out.symm)).1 HSZ.out) rfl (StepD.of s HSs.out HC.out (q:=false) HR.out rfl (fun h=>by rw [HR.out] at h;cases h) (HS.out.fin (HSZ.out.trans HZS.out.symm)).2)
  ·have e1:(lf == 0)=false:=beq_eq_false_iff_ne.2 hl
   have e2:(lf != 0)=true:=bne_iff_ne.2 hl
   have HSZ:=hD (zg HSs.out)
   have H1:=hD (zp s)
   generalize hC:stA s=C at HS HSZ H1
   have HC:=hD hC
   clear hC
   go_upto_region 13 with(fail)
   go_wp2_with (first | (refine zb zr zd rfl (.tmp 7) rfl (g+1+1) 0 rfl C (zf HS.out.st) HSZ.out ?_) | (refine za zd rfl (.tmp 8) (.tmp 97) rfl (g+1+1+1) 0 C rfl rfl (zi HS.out.re (by rw [HZS.out];decide)) HSZ.out H1.out ?_))
   exact bodyPost_ret (zh rfl _ _ (g+1+1+1) C rfl (HS.out.fin (HSZ.out.trans HZS.out.symm)).1 HSZ.out) rfl (StepD.of s HSs.out HC.out (q:=false) HR.out rfl (fun h=>by rw [HR.out] at h;cases h) (HS.out.fin (HSZ.out.trans HZS.out.symm)).2)
end Go.Proofs.YtlmbiafloiompaaGreatDoor
