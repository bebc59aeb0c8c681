/-
 The document's step (layer 11): of whatever instruction. Conditions: an object that may be,an instruction of it,a place in some predicate's code.
-/
import Derived.Test.YtlmbiafloiompaaGreatDoorJO12
import Derived.Shelf.Abstract
set_option linter.unusedVariables false
set_option linter.unusedSimpArgs false
namespace Go.Proofs.YtlmbiafloiompaaGreatDoor
open Go Go.RowKit
set_option maxRecDepth 100000
set_option maxHeartbeats 8000000 in
theorem rstep_bad {o:Ob} {s:VSt} {op a b c d:Int} (hpv:partV op=false) (h:s.left≠0 ∨ s.alt≠(decide (op=21) || decide (op=22))) (own:Int) (hs:StOk s) {va vf vp vc:Value} (w:World) (hv:ObAt w va vf vp vc o) :
  Calls Tryz.prog 32 #[.agg #[va,vf,vp,vc],.int .i64 own,.agg #[.int .i64 op,.int .i64 a,.int .i64 b,.int .i64 c,.int .i64 d],.agg (stA s)] w (StepD o own (op,a,b,c,d) s w):=by
 obtain⟨A1,c1,rfl⟩:=CellsAt.form hv.atoms
 obtain⟨A2,cf,rfl⟩:=CellsAt.form hv.funs
 obtain⟨A3,cp,rfl⟩:=CellsAt.form hv.preds
 obtain⟨A4,c4,rfl⟩:=CellsAt.form hv.code
 have HV:=hD hv
 have HSs:=hD hs
 have HS0:=hD (SdW.start w #[.slice A1 o.atoms.length c1,.slice A2 o.funs.length cf,.slice A3 o.preds.length cp,.slice A4 o.code.length c4] #[.int .i64 op,.int .i64 a,.int .i64 b,.int .i64 c,.int .i64 d] (stA s) zeroA)
 have HZE:=hD zE
 have HZS:Hid (zeroA.size=21):=hD rfl
 generalize zeroA=O at HS0 HZE HZS
 have HR:Hid (asksV o (arityP o own) (op,a,b,c,d) s=false):=hD (by rcases h with h | h;exact zf19 hpv h;exact zw13 h)
 clear hv
 go_enter Tryz.func32,Tryz.ntmps32
 go_upto_region 1 with(fail)
 rw [← HZE.out]
 obtain⟨w1,hw1⟩:∃ w1,(((w.alloc (.cells #[.slice A1 o.atoms.length c1,.slice A2 o.funs.length cf,.slice A3 o.preds.length cp,.slice A4 o.code.length c4] 27)).alloc (.cells #[.int .i64 op,.int .i64 a,.int .i64 b,.int .i64 c,.int .i64 d] 54)).alloc (.cells (stA s) 95)).alloc (.cells O 95)=w1:=⟨_,rfl⟩
 obtain⟨g,hg⟩:∃ g,w.heap.size=g:=⟨_,rfl⟩
 rw [hw1] at HS0 ⊢
 rw [hg] at HS0 ⊢
 clear hw1 HZE hg
 obtain⟨i0,i1,i2,-⟩:=HS0.out.rl
 go_quiet (fail)
 have HS:=hD (HS0.out.drewN nq)
 obtain⟨w2,hw2⟩:∃ w2,w1.drewN nq=w2:=⟨_,rfl⟩
 rw [hw2] at HS ⊢
 clear hw2 HS0 i0 i1 i2
 obtain⟨i0,i1,i2,i3,i4,q0,q1,q2,q3⟩:=HS.out.rl
 have x18:=(HS.out.xl HSs.out).2.2.1
 have x19:=(HS.out.xl HSs.out).2.2.2.1
 generalize s.left=lf at x18 h
 generalize s.alt=al at x19 h
 have hops:op<6 ∨ 9<op:=by
  unfold partV at hpv
  simp at hpv
  omega
 rcases hops with h6 | h9
 ·have f6:¬ (6≤op):=by omega
  have f21:(op == 21)=false:=beq_eq_false_iff_ne.2 (by omega)
  have f22:(op == 22)=false:=beq_eq_false_iff_ne.2 (by omega)
  have htw:(decide (op=21) || decide (op=22))=false:=by rw [decide_eq_false (by omega),decide_eq_false (by omega)];rfl
  rw [htw] at h
  by_cases hl:lf=0
  ·have hal:al=true:=by
    rcases h with h | h
    ·exact absurd hl h
    ·simpa using h
   subst hl hal
   obtain⟨C,HC,HSZ,H1⟩:=genS HSs
   rw [HC.out] at HS
   go_upto_region 13 with(fail)
   go_wp2_with (first | (refine ldS HS HSZ rfl (.tmp 7) rfl rfl ?_) | (refine stS HS HZS HSZ H1 rfl (.tmp 8) (.tmp 97) rfl rfl rfl ?_))
   exact finN HS HZS HSZ HSs HC HR rfl rfl rfl rfl
  ·have e1:(lf == 0)=false:=beq_eq_false_iff_ne.2 hl
   have e2:(lf != 0)=true:=bne_iff_ne.2 hl
   obtain⟨C,HC,HSZ,H1⟩:=genS HSs
   rw [HC.out] at HS
   go_upto_region 13 with(fail)
   go_wp2_with (first | (refine ldS HS HSZ rfl (.tmp 7) rfl rfl ?_) | (refine stS HS HZS HSZ H1 rfl (.tmp 8) (.tmp 97) rfl rfl rfl ?_))
   exact finN HS HZS HSZ HSs HC HR rfl rfl rfl rfl
 ·have f6:6≤op:=by omega
  have f9:¬ (op≤9):=by omega
  by_cases hl:lf=0
  ·have ha:al≠(decide (op=21) || decide (op=22)):=by
    rcases h with h | h
    ·exact absurd hl h
    ·exact h
   subst hl
   clear h
   by_cases h21:op=21
   ·subst h21
    have hal:al=false:=by simpa using ha
    subst hal
    obtain⟨C,HC,HSZ,H1⟩:=genS HSs
    rw [HC.out] at HS
    go_upto_region 13 with(fail)
    go_wp2_with (first | (refine ldS HS HSZ rfl (.tmp 7) rfl rfl ?_) | (refine stS HS HZS HSZ H1 rfl (.tmp 8) (.tmp 97) rfl rfl rfl ?_))
    exact finN HS HZS HSZ HSs HC HR rfl rfl rfl rfl
   ·by_cases h22:op=22
    ·subst h22
     have hal:al=false:=by simpa using ha
     subst hal
     obtain⟨C,HC,HSZ,H1⟩:=genS HSs
     rw [HC.out] at HS
     go_upto_region 13 with(fail)
     go_wp2_with (first | (refine ldS HS HSZ rfl (.tmp 7) rfl rfl ?_) | (refine stS HS HZS HSZ H1 rfl (.tmp 8) (.tmp 97) rfl rfl rfl ?_))
     exact finN HS HZS HSZ HSs HC HR rfl rfl rfl rfl
    ·have f21:(op == 21)=false:=beq_eq_false_iff_ne.2 h21
     have f22:(op == 22)=false:=beq_eq_false_iff_ne.2 h22
     have hal:al=true:=by
      rw [decide_eq_false h21,decide_eq_false h22] at ha
      simpa using ha
     subst hal
     clear ha
     obtain⟨C,HC,HSZ,H1⟩:=genS HSs
     rw [HC.out] at HS
     go_upto_region 13 with(fail)
     go_wp2_with (first | (refine ldS HS HSZ rfl (.tmp 7) rfl rfl ?_) | (refine stS HS HZS HSZ H1 rfl (.tmp 8) (.tmp 97) rfl rfl rfl ?_))
     exact finN HS HZS HSZ HSs HC HR rfl rfl rfl rfl
  ·have e1:(lf == 0)=false:=beq_eq_false_iff_ne.2 hl
   have e2:(lf != 0)=true:=bne_iff_ne.2 hl
   obtain⟨C,HC,HSZ,H1⟩:=genS HSs
   rw [HC.out] at HS
   go_upto_region 13 with(fail)
   go_wp2_with (first | (refine ldS HS HSZ rfl (.tmp 7) rfl rfl ?_) | (refine stS HS HZS HSZ H1 rfl (.tmp 8) (.tmp 97) rfl rfl rfl ?_))
   exact finN HS HZS HSZ HSs HC HR rfl rfl rfl rfl
end Go.Proofs.YtlmbiafloiompaaGreatDoor
