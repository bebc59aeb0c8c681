/-
 The document's step (layer 11): of whatever instruction. Conditions: an object that may be,an instruction of it,a place in some predicate's code.
-/
import Derived.Test.YtlmbiafloiompaaGreatDoorJO12
import Derived.Shelf.Abstract
set_option linter.unusedVariables false
set_option linter.unusedSimpArgs false
namespace Go.Proofs.YtlmbiafloiompaaGreatDoor
open Go Go.RowKit
set_option maxRecDepth 100000
set_option maxHeartbeats 8000000 in
theorem zx20 {o:Ob} (ho:ObK o) {op a b c d:Int} (hi:InsK o (op,a,b,c,d)) (hK:op=6 ∨ op=7 ∨ op=8 ∨ op=9) (own:Int) {s:VSt} (hs:StOk s) (hlf:0≤s.left∧s.left≤8) {va vf vp vc:Value} (w:World) (hv:ObAt w va vf vp vc o) :
  Calls Tryz.prog 32 #[.agg #[va,vf,vp,vc],.int .i64 own,.agg #[.int .i64 op,.int .i64 a,.int .i64 b,.int .i64 c,.int .i64 d],.agg (stA s)] w (StepD o own (op,a,b,c,d) s w):=by
 obtain⟨A1,c1,rfl⟩:=CellsAt.form hv.atoms
 obtain⟨A2,cf,rfl⟩:=CellsAt.form hv.funs
 obtain⟨A3,cp,rfl⟩:=CellsAt.form hv.preds
 obtain⟨A4,c4,rfl⟩:=CellsAt.form hv.code
 have HV:=hD hv
 have HSs:=hD hs
 have HS0:=hD (SdW.start w #[.slice A1 o.atoms.length c1,.slice A2 o.funs.length cf,.slice A3 o.preds.length cp,.slice A4 o.code.length c4] #[.int .i64 op,.int .i64 a,.int .i64 b,.int .i64 c,.int .i64 d] (stA s) zeroA)
 have HZE:=hD zE
 have HZS:Hid (zeroA.size=21):=hD rfl
 generalize zeroA=O at HS0 HZE HZS
 have HALT:=hD (fun h=>zw13 (o:=o) (ar:=arityP o own) (op:=op) (a:=a) (b:=b) (c:=c) (d:=d) (s:=s) h)
 have HPT:=hD (fun h=>zg19 (o:=o) (ar:=arityP o own) (op:=op) (a:=a) (b:=b) (c:=c) (d:=d) (s:=s) h (by rcases hK with rfl | rfl | rfl | rfl <;> rfl))
 clear hv
 go_enter Tryz.func32,Tryz.ntmps32
 go_upto_region 1 with(fail)
 rw [← HZE.out]
 obtain⟨w1,hw1⟩:∃ w1,(((w.alloc (.cells #[.slice A1 o.atoms.length c1,.slice A2 o.funs.length cf,.slice A3 o.preds.length cp,.slice A4 o.code.length c4] 27)).alloc (.cells #[.int .i64 op,.int .i64 a,.int .i64 b,.int .i64 c,.int .i64 d] 54)).alloc (.cells (stA s) 95)).alloc (.cells O 95)=w1:=⟨_,rfl⟩
 obtain⟨g,hg⟩:∃ g,w.heap.size=g:=⟨_,rfl⟩
 rw [hw1] at HS0 ⊢
 rw [hg] at HS0 ⊢
 clear hw1 HZE hg
 obtain⟨i0,i1,i2,-⟩:=HS0.out.rl
 go_quiet (fail)
 have HS:=hD (HS0.out.drewN nq)
 obtain⟨w2,hw2⟩:∃ w2,w1.drewN nq=w2:=⟨_,rfl⟩
 rw [hw2] at HS ⊢
 clear hw2 HS0 i0 i1 i2
 obtain⟨i0,i1,i2,i3,i4,q0,q1,q2,q3⟩:=HS.out.rl
 have x18:=(HS.out.xl HSs.out).2.2.1
 have x19:=(HS.out.xl HSs.out).2.2.2.1
 obtain⟨al,hal⟩:∃ al,s.alt=al:=⟨_,rfl⟩
 rw [hal] at x19
 obtain⟨lf,hlv⟩:∃ lf,s.left=lf:=⟨_,rfl⟩
 rw [hlv] at x18 hlf
 have HAL:=hD hal
 have HLV:=hD hlv
 clear hal hlv
 obtain rfl | rfl | rfl | rfl:=hK
 ·as_aux_lemma=>
   obtain⟨hr0,hr1⟩:=reg32 (a:=a) (hi.rg (by simp))
   by_cases hle:1≤lf
   ·have e0:¬ (lf<1):=by omega
    have e1:(lf == 0)=false:=beq_eq_false_iff_ne.2 (by omega)
    cases al with
    | true=>
     have HR:Hid (asksV o (arityP o own) (6,a,b,c,d) s=false):=hD (by exact HALT.out (by rw [HAL.out];decide))
     obtain⟨C,HC,HSZ,H1⟩:=genS HSs
     rw [HC.out] at HS
     go_upto_region 7 with(fail)
     go_wp2_with (first | (refine ldS HS HSZ rfl (.tmp 7) rfl rfl ?_) | (refine stS HS HZS HSZ H1 rfl (.tmp 8) (.tmp 68) rfl rfl rfl ?_))
     exact finN HS HZS HSZ HSs HC HR rfl rfl rfl rfl
    | false=>
     have HT:=hD (fun w=>zw6 hs a hr0 hr1 w)
     have HR0:Hid (asksV o (arityP o own) (6,a,b,c,d) s=mayV s a):=hD (by
      rw [(HPT.out (by rw [HAL.out];rfl))]
      unfold asksPart
      rw [if_neg (show ¬ (6:Int)=9 by decide),if_neg (by rw [HLV.out];omega),if_pos rfl])
     generalize mayV s a=bq at HT HR0
     cases bq with
     | false=>
      have HR:=HRt (q:=false) HR0 rfl
      have HSZ:=hD (zh HSs.out)
      go_upto_region 6 with(fail)
      have hfl:True:=trivial
      go_upto_region 7 with(first | (go_at_call 64;refine(HT.out _).mono ?_;rintro e1 w5 ⟨rfl,hb5⟩;have HS:=upS HS hb5;clear hb5;obtain⟨i0,i1,i2,i3,i4,q0,q1,q2,q3⟩:=HS.out.rl) | (clear hfl;refine ldSW HS HSZ (by kernel_rfl) (.tmp 7) rfl rfl ?_))
      clear HSZ
      obtain⟨C,HC,HSZ,H1⟩:=genS HSs
      rw [HC.out] at HS
      go_wp2_with (first | (refine ldS HS HSZ rfl (.tmp 7) rfl rfl ?_) | (refine stS HS HZS HSZ H1 rfl (.tmp 8) (.tmp 68) rfl rfl rfl ?_))
      exact finN HS HZS HSZ HSs HC HR rfl rfl rfl rfl
     | true=>
      have HR:=HRt (q:=true) HR0 rfl
      have HSZ:=hD (zh HSs.out)
      have hwr:IntKind.i64.wrap (lf - 1)=lf - 1:=IntWalk.i64_in _ (by omega)
      go_upto_region 6 with(fail)
      have hfl:True:=trivial
      go_upto_region 8 with(first | (go_at_call 64;refine(HT.out _).mono ?_;rintro e1 w5 ⟨rfl,hb5⟩;have HS:=upS HS hb5;clear hb5;obtain⟨i0,i1,i2,i3,i4,q0,q1,q2,q3⟩:=HS.out.rl) | (clear hfl;refine ldSW HS HSZ (by kernel_rfl) (.tmp 7) rfl rfl ?_))
      have HTM:=hD (fun w=>zj10 hs a hr0 hr1 w)
      have HSb:=hD (HSs.out.bec hr0 hr1)
      have HSZ2:=hD (zh HSb.out)
      have H12:=hD (zu1 (becV s a))
      go_upto_region 9 with(fail)
      go_upto_region 10 with(first | (refine ldS HS HSZ rfl (.tmp 7) rfl rfl ?_) | (go_at_call 66;refine(HTM.out _).mono ?_;rintro e1 w5 ⟨rfl,hb5⟩;have HS:=upS HS hb5;clear hb5;obtain⟨i0,i1,i2,i3,i4,q0,q1,q2,q3⟩:=HS.out.rl) | (refine stB HS HSZ HSZ2 H12 rfl (.tmp 7) (.tmp 74) rfl rfl rfl ?_;have HS:=hD (HS.out.put (HSZ2.out.trans HSZ.out.symm));obtain⟨i0,i1,i2,i3,i4,q0,q1,q2,q3⟩:=HS.out.rl))
      generalize hwz:World.setCells _ (g+1+1) 0 (stA (becV s a)).toList=wz at HS i0 i1 i2 i3 i4 q0 q1 q2 q3 ⊢
      clear hwz HSZ
      have HSs:=HSb
      have x18:=(HS.out.xl HSs.out).2.2.1
      rw [zc5,HLV.out] at x18
      have z18:=HS.out.st.frozen 18
      go_upto_region 11 with(fail)
      have HS:=hD (HS.out.set 18 (.int .i64 (lf - 1)))
      rw [← zc1 HSs.out (lf - 1)] at HS
      have HSs:Hid (StOk { (becV s a) with left:=lf - 1 }):=hD ⟨HSs.out.y,HSs.out.x⟩
      obtain⟨C,HC,HSZ,H1⟩:=genS HSs
      rw [HC.out] at HS
      go_wp2_with (first | (refine ldS HS HSZ rfl (.tmp 7) rfl rfl ?_) | (refine stS HS HZS HSZ H1 rfl (.tmp 8) (.tmp 80) rfl rfl rfl ?_))
      exact finD HS HZS HSZ HSs HC HR rfl rfl rfl rfl fun _=>by rw [← HLV.out];rfl
   ·have HR:Hid (asksV o (arityP o own) (6,a,b,c,d) s=false):=hD (by 
     cases al with
     | true=>exact HALT.out (by rw [HAL.out];decide)
     | false=>
      rw [(HPT.out (by rw [HAL.out];rfl))]
      unfold asksPart
      rw [if_neg (show ¬ (6:Int)=9 by decide),if_pos (by rw [HLV.out];omega)])
    have e0:lf<1:=by omega
    obtain⟨C,HC,HSZ,H1⟩:=genS HSs
    rw [HC.out] at HS
    go_upto_region 7 with(fail)
    go_wp2_with (first | (refine ldS HS HSZ rfl (.tmp 7) rfl rfl ?_) | (refine stS HS HZS HSZ H1 rfl (.tmp 8) (.tmp 68) rfl rfl rfl ?_))
    exact finN HS HZS HSZ HSs HC HR rfl rfl rfl rfl
 ·as_aux_lemma=>
   obtain⟨hr0,hr1⟩:=reg32 (a:=a) (hi.rg (by simp))
   by_cases hle:1≤lf
   ·have e0:¬ (lf<1):=by omega
    have e1:(lf == 0)=false:=beq_eq_false_iff_ne.2 (by omega)
    cases al with
    | true=>
     have HR:Hid (asksV o (arityP o own) (7,a,b,c,d) s=false):=hD (by exact HALT.out (by rw [HAL.out];decide))
     obtain⟨C,HC,HSZ,H1⟩:=genS HSs
     rw [HC.out] at HS
     go_upto_region 7 with(fail)
     go_wp2_with (first | (refine ldS HS HSZ rfl (.tmp 7) rfl rfl ?_) | (refine stS HS HZS HSZ H1 rfl (.tmp 8) (.tmp 68) rfl rfl rfl ?_))
     exact finN HS HZS HSZ HSs HC HR rfl rfl rfl rfl
    | false=>
     have HT:=hD (fun w=>zz5 hs a hr0 hr1 w)
     have HR0:Hid (asksV o (arityP o own) (7,a,b,c,d) s=termV s a):=hD (by
      rw [(HPT.out (by rw [HAL.out];rfl))]
      unfold asksPart
      rw [if_neg (show ¬ (7:Int)=9 by decide),if_neg (by rw [HLV.out];omega),if_neg (show ¬ (7:Int)=6 by decide),if_pos rfl])
     generalize termV s a=bq at HT HR0
     cases bq with
     | false=>
      have HR:=HRt (q:=false) HR0 rfl
      have HSZ:=hD (zh HSs.out)
      go_upto_region 6 with(fail)
      go_upto_region 7 with(first | (go_at_call 65;refine(HT.out _).mono ?_;rintro e1 w5 ⟨rfl,hb5⟩;have HS:=upS HS hb5;clear hb5;obtain⟨i0,i1,i2,i3,i4,q0,q1,q2,q3⟩:=HS.out.rl) | (refine ldSW HS HSZ (by rfl) (.tmp 7) rfl rfl ?_))
      clear HSZ
      obtain⟨C,HC,HSZ,H1⟩:=genS HSs
      rw [HC.out] at HS
      go_wp2_with (first | (refine ldS HS HSZ rfl (.tmp 7) rfl rfl ?_) | (refine stS HS HZS HSZ H1 rfl (.tmp 8) (.tmp 68) rfl rfl rfl ?_))
      exact finN HS HZS HSZ HSs HC HR rfl rfl rfl rfl
     | true=>
      have HR:=HRt (q:=true) HR0 rfl
      have HSZ:=hD (zh HSs.out)
      have hwr:IntKind.i64.wrap (lf - 1)=lf - 1:=IntWalk.i64_in _ (by omega)
      go_upto_region 6 with(fail)
      go_upto_region 8 with(first | (go_at_call 65;refine(HT.out _).mono ?_;rintro e1 w5 ⟨rfl,hb5⟩;have HS:=upS HS hb5;clear hb5;obtain⟨i0,i1,i2,i3,i4,q0,q1,q2,q3⟩:=HS.out.rl) | (refine ldSW HS HSZ (by rfl) (.tmp 7) rfl rfl ?_))
      go_upto_region 10 with(fail)
      clear HSZ
      have x18:=(HS.out.xl HSs.out).2.2.1
      rw [HLV.out] at x18
      have z18:=HS.out.st.frozen 18
      go_upto_region 11 with(fail)
      have HS:=hD (HS.out.set 18 (.int .i64 (lf - 1)))
      rw [← zc1 HSs.out (lf - 1)] at HS
      have HSs:Hid (StOk { s with left:=lf - 1 }):=hD ⟨HSs.out.y,HSs.out.x⟩
      obtain⟨C,HC,HSZ,H1⟩:=genS HSs
      rw [HC.out] at HS
      go_wp2_with (first | (refine ldS HS HSZ rfl (.tmp 7) rfl rfl ?_) | (refine stS HS HZS HSZ H1 rfl (.tmp 8) (.tmp 80) rfl rfl rfl ?_))
      exact finD HS HZS HSZ HSs HC HR rfl rfl rfl rfl fun _=>by rw [← HLV.out];rfl
   ·have HR:Hid (asksV o (arityP o own) (7,a,b,c,d) s=false):=hD (by 
     cases al with
     | true=>exact HALT.out (by rw [HAL.out];decide)
     | false=>
      rw [(HPT.out (by rw [HAL.out];rfl))]
      unfold asksPart
      rw [if_neg (show ¬ (7:Int)=9 by decide),if_pos (by rw [HLV.out];omega)])
    have e0:lf<1:=by omega
    obtain⟨C,HC,HSZ,H1⟩:=genS HSs
    rw [HC.out] at HS
    go_upto_region 7 with(fail)
    go_wp2_with (first | (refine ldS HS HSZ rfl (.tmp 7) rfl rfl ?_) | (refine stS HS HZS HSZ H1 rfl (.tmp 8) (.tmp 68) rfl rfl rfl ?_))
    exact finN HS HZS HSZ HSs HC HR rfl rfl rfl rfl
 ·as_aux_lemma=>
   by_cases hle:1≤lf
   ·have e0:¬ (lf<1):=by omega
    have e1:(lf == 0)=false:=beq_eq_false_iff_ne.2 (by omega)
    cases al with
    | true=>
     have HR:Hid (asksV o (arityP o own) (8,a,b,c,d) s=false):=hD (by exact HALT.out (by rw [HAL.out];decide))
     obtain⟨C,HC,HSZ,H1⟩:=genS HSs
     rw [HC.out] at HS
     go_upto_region 7 with(fail)
     go_wp2_with (first | (refine ldS HS HSZ rfl (.tmp 7) rfl rfl ?_) | (refine stS HS HZS HSZ H1 rfl (.tmp 8) (.tmp 68) rfl rfl rfl ?_))
     exact finN HS HZS HSZ HSs HC HR rfl rfl rfl rfl
    | false=>
     have HR:Hid (asksV o (arityP o own) (8,a,b,c,d) s=true):=hD (by
      rw [(HPT.out (by rw [HAL.out];rfl))]
      unfold asksPart
      rw [if_neg (show ¬ (8:Int)=9 by decide),if_neg (by rw [HLV.out];omega),if_neg (show ¬ (8:Int)=6 by decide),if_neg (show ¬ (8:Int)=7 by decide)])
     have hwr:IntKind.i64.wrap (lf - 1)=lf - 1:=IntWalk.i64_in _ (by omega)
     go_upto_region 10 with(fail)
     have x18:=(HS.out.xl HSs.out).2.2.1
     rw [HLV.out] at x18
     have z18:=HS.out.st.frozen 18
     go_upto_region 11 with(fail)
     have HS:=hD (HS.out.set 18 (.int .i64 (lf - 1)))
     rw [← zc1 HSs.out (lf - 1)] at HS
     have HSs:Hid (StOk { s with left:=lf - 1 }):=hD ⟨HSs.out.y,HSs.out.x⟩
     obtain⟨C,HC,HSZ,H1⟩:=genS HSs
     rw [HC.out] at HS
     go_wp2_with (first | (refine ldS HS HSZ rfl (.tmp 7) rfl rfl ?_) | (refine stS HS HZS HSZ H1 rfl (.tmp 8) (.tmp 80) rfl rfl rfl ?_))
     exact finD HS HZS HSZ HSs HC HR rfl rfl rfl rfl fun _=>by rw [← HLV.out];rfl
   ·have HR:Hid (asksV o (arityP o own) (8,a,b,c,d) s=false):=hD (by 
     cases al with
     | true=>exact HALT.out (by rw [HAL.out];decide)
     | false=>
      rw [(HPT.out (by rw [HAL.out];rfl))]
      unfold asksPart
      rw [if_neg (show ¬ (8:Int)=9 by decide),if_pos (by rw [HLV.out];omega)])
    have e0:lf<1:=by omega
    obtain⟨C,HC,HSZ,H1⟩:=genS HSs
    rw [HC.out] at HS
    go_upto_region 7 with(fail)
    go_wp2_with (first | (refine ldS HS HSZ rfl (.tmp 7) rfl rfl ?_) | (refine stS HS HZS HSZ H1 rfl (.tmp 8) (.tmp 68) rfl rfl rfl ?_))
    exact finN HS HZS HSZ HSs HC HR rfl rfl rfl rfl
 ·as_aux_lemma=>
   have hva:=hi.va rfl
   simp only at hva
   by_cases hle:a≤lf
   ·have e0:¬ (lf<a):=by omega
    have e1:(lf == 0)=false:=beq_eq_false_iff_ne.2 (by omega)
    cases al with
    | true=>
     have HR:Hid (asksV o (arityP o own) (9,a,b,c,d) s=false):=hD (by exact HALT.out (by rw [HAL.out];decide))
     obtain⟨C,HC,HSZ,H1⟩:=genS HSs
     rw [HC.out] at HS
     go_upto_region 7 with(fail)
     go_wp2_with (first | (refine ldS HS HSZ rfl (.tmp 7) rfl rfl ?_) | (refine stS HS HZS HSZ H1 rfl (.tmp 8) (.tmp 68) rfl rfl rfl ?_))
     exact finN HS HZS HSZ HSs HC HR rfl rfl rfl rfl
    | false=>
     have HR:Hid (asksV o (arityP o own) (9,a,b,c,d) s=true):=hD (by
      rw [(HPT.out (by rw [HAL.out];rfl))]
      exact decide_eq_true (by rw [HLV.out];exact hle))
     have hwr:IntKind.i64.wrap (lf - a)=lf - a:=IntWalk.i64_in _ (by omega)
     go_upto_region 10 with(fail)
     have x18:=(HS.out.xl HSs.out).2.2.1
     rw [HLV.out] at x18
     have z18:=HS.out.st.frozen 18
     go_upto_region 11 with(fail)
     have HS:=hD (HS.out.set 18 (.int .i64 (lf - a)))
     rw [← zc1 HSs.out (lf - a)] at HS
     have HSs:Hid (StOk { s with left:=lf - a }):=hD ⟨HSs.out.y,HSs.out.x⟩
     obtain⟨C,HC,HSZ,H1⟩:=genS HSs
     rw [HC.out] at HS
     go_wp2_with (first | (refine ldS HS HSZ rfl (.tmp 7) rfl rfl ?_) | (refine stS HS HZS HSZ H1 rfl (.tmp 8) (.tmp 80) rfl rfl rfl ?_))
     exact finD HS HZS HSZ HSs HC HR rfl rfl rfl rfl fun _=>by rw [← HLV.out];rfl
   ·have HR:Hid (asksV o (arityP o own) (9,a,b,c,d) s=false):=hD (by 
     cases al with
     | true=>exact HALT.out (by rw [HAL.out];decide)
     | false=>
      rw [(HPT.out (by rw [HAL.out];rfl))]
      exact decide_eq_false (by rw [HLV.out];exact hle))
    have e0:lf<a:=by omega
    obtain⟨C,HC,HSZ,H1⟩:=genS HSs
    rw [HC.out] at HS
    go_upto_region 7 with(fail)
    go_wp2_with (first | (refine ldS HS HSZ rfl (.tmp 7) rfl rfl ?_) | (refine stS HS HZS HSZ H1 rfl (.tmp 8) (.tmp 68) rfl rfl rfl ?_))
    exact finN HS HZS HSZ HSs HC HR rfl rfl rfl rfl
end Go.Proofs.YtlmbiafloiompaaGreatDoor
