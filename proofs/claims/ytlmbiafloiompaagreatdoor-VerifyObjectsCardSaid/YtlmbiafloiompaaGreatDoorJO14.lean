/-
 verify's asks (layer 11): is all that an instruction asks so? Conditions: an object that may be,an instruction of it.
-/
import Derived.Test.YtlmbiafloiompaaGreatDoorJO13
set_option linter.unusedVariables false
set_option linter.unusedSimpArgs false
namespace Go.Proofs.YtlmbiafloiompaaGreatDoor
open Go Go.RowKit
set_option maxRecDepth 4000
theorem zn1 (w:World) (I A:Array Value) (t u:TypeId):Box ((w.alloc (.cells I t)).alloc (.cells A u)) w.heap.size t I∧Box ((w.alloc (.cells I t)).alloc (.cells A u)) (w.heap.size+1) u A∧Below w.heap.size w ((w.alloc (.cells I t)).alloc (.cells A u)):=by
 refine⟨(Box.new w _ _).alloc _,?_,za1 w _ _⟩
 have:=Box.new (w.alloc (.cells I t)) u A
 rw [World.size_alloc] at this
 exact this
theorem aP_9 {op a b c d:Int} {s:VSt} (h:op=9):asksPart (op,a,b,c,d) s=decide (a≤s.left):=if_pos h
theorem aP_0 {op a b c d:Int} {s:VSt} (h:op≠9) (hl:s.left=0):asksPart (op,a,b,c,d) s=false:=by unfold asksPart;rw [if_neg h,if_pos hl]
theorem aP_6 {op a b c d:Int} {s:VSt} (h:op=6) (hl:s.left≠0):asksPart (op,a,b,c,d) s=mayV s a:=by unfold asksPart;rw [if_neg (by show ¬ op=9;omega),if_neg hl,if_pos h]
theorem aP_7 {op a b c d:Int} {s:VSt} (h:op=7) (hl:s.left≠0):asksPart (op,a,b,c,d) s=termV s a:=by unfold asksPart;rw [if_neg (by show ¬ op=9;omega),if_neg hl,if_neg (by show ¬ op=6;omega),if_pos h]
theorem aP_8 {op a b c d:Int} {s:VSt} (h:op≠9) (h6:op≠6) (h7:op≠7) (hl:s.left≠0):asksPart (op,a,b,c,d) s=true:=by unfold asksPart;rw [if_neg h,if_neg hl,if_neg h6,if_neg h7]
set_option maxHeartbeats 4000000 in
theorem zx13 (op a b c d:Int) (ha:op=6 ∨ op=7→0≤a∧a<32) {s:VSt} (hs:StOk s) (w:World) :
  Calls Tryz.prog 124 #[.agg #[.int .i64 op,.int .i64 a,.int .i64 b,.int .i64 c,.int .i64 d],.agg (stA s)] w fun e w'=>e=.returned (.bool (asksPart (op,a,b,c,d) s))∧Below w.heap.size w w':=by
 obtain⟨X1,X2,hb⟩:=zn1 w #[.int .i64 op,.int .i64 a,.int .i64 b,.int .i64 c,.int .i64 d] (stA s) 65 58
 have HI:=hD X1
 have HX:=hD X2
 have HB:=hD hb
 clear X1 X2 hb
 have s1:=zh1 hs
 have HZ:=hD (zh hs)
 have HMB:=hD (fun h0 h1 w=>zz12 hs a h0 h1 w)
 have HIT:=hD (fun h0 h1 w=>zq9 hs a h0 h1 w)
 have H9:=hD (fun h=>aP_9 (op:=op) (a:=a) (b:=b) (c:=c) (d:=d) (s:=s) h)
 have H0:=hD (fun h hl=>aP_0 (op:=op) (a:=a) (b:=b) (c:=c) (d:=d) (s:=s) h hl)
 have H6:=hD (fun h hl=>aP_6 (op:=op) (a:=a) (b:=b) (c:=c) (d:=d) (s:=s) h hl)
 have H7:=hD (fun h hl=>aP_7 (op:=op) (a:=a) (b:=b) (c:=c) (d:=d) (s:=s) h hl)
 have H8:=hD (fun h h6 h7 hl=>aP_8 (op:=op) (a:=a) (b:=b) (c:=c) (d:=d) (s:=s) h h6 h7 hl)
 generalize asksPart (op,a,b,c,d) s=R at H9 H0 H6 H7 H8 ⊢
 generalize mayV s a=mb at HMB H6
 generalize termV s a=it at HIT H7
 generalize stA s=A at HI HX HB s1 HZ HMB HIT ⊢
 generalize s.left=lf at s1 H9 H0 H6 H7 H8
 obtain⟨g,hg⟩:∃ g,w.heap.size=g:=⟨_,rfl⟩
 go_enter Tryz.func124,Tryz.ntmps124
 go_upto_region 1 with(fail)
 obtain⟨w1,hw1⟩:∃ w1,(w.alloc (.cells #[.int .i64 op,.int .i64 a,.int .i64 b,.int .i64 c,.int .i64 d] 65)).alloc (.cells A 58)=w1:=⟨_,rfl⟩
 rw [hw1] at HI HX HB ⊢
 rw [hg] at HI HX HB
 have HG:=hD HB.out.size
 rw [hg] at HG
 clear hw1
 have i0:=HI.out.cell 0
 have i1:=HI.out.cell 1
 have x18:=HX.out.cell 18
 rw [s1] at x18
 clear s1
 by_cases h9:op=9
 ·have HR:=hD (H9.out h9)
  subst h9
  clear H9 H0 H6 H7 H8 HMB HIT
  go_wp2
  go_ret
  exact⟨by rw [HR.out];rfl,by first | exact HB.out | (rw [hg];exact HB.out)⟩
 have e9:(op == 9)=false:=beq_eq_false_iff_ne.2 h9
 by_cases h0:lf=0
 ·have HR:=hD (H0.out h9 h0)
  subst h0
  clear H9 H0 H6 H7 H8 HMB HIT
  go_wp2
  go_ret
  exact⟨by rw [HR.out];rfl,by first | exact HB.out | (rw [hg];exact HB.out)⟩
 have e0:(lf == 0)=false:=beq_eq_false_iff_ne.2 h0
 by_cases h6:op=6
 ·have HR:=hD (H6.out h6 h0)
  have HM:=hD (HMB.out (ha (.inl h6)).1 (ha (.inl h6)).2)
  subst h6
  clear H9 H0 H6 H7 H8 HMB HIT ha h0 h9
  go_wp2_with (first | (refine zf rfl (.tmp 3) rfl (g+1) rfl A HX.out HZ.out ?_) | (go_at_call 126;refine(HM.out _).mono ?_;rintro e1 w2 ⟨rfl,hb2⟩;have HB2:=hD (HB.out.trans (hb2.mono HG.out));clear hb2))
  go_ret
  exact⟨by rw [HR.out];rfl,by first | exact HB2.out | (rw [hg];exact HB2.out)⟩
 have e6:(op == 6)=false:=beq_eq_false_iff_ne.2 h6
 by_cases h7:op=7
 ·have HR:=hD (H7.out h7 h0)
  have HM:=hD (HIT.out (ha (.inr h7)).1 (ha (.inr h7)).2)
  subst h7
  clear H9 H0 H6 H7 H8 HMB HIT ha h0 h9 h6
  go_wp2_with (first | (refine zf rfl (.tmp 3) rfl (g+1) rfl A HX.out HZ.out ?_) | (go_at_call 127;refine(HM.out _).mono ?_;rintro e1 w2 ⟨rfl,hb2⟩;have HB2:=hD (HB.out.trans (hb2.mono HG.out));clear hb2))
  go_ret
  exact⟨by rw [HR.out];rfl,by first | exact HB2.out | (rw [hg];exact HB2.out)⟩
 have e7:(op == 7)=false:=beq_eq_false_iff_ne.2 h7
 have HR:=hD (H8.out h9 h6 h7 h0)
 clear H9 H0 H6 H7 H8 HMB HIT ha h0 h9 h6 h7
 go_wp2
 go_ret
 exact⟨by rw [HR.out];rfl,by first | exact HB.out | (rw [hg];exact HB.out)⟩
end Go.Proofs.YtlmbiafloiompaaGreatDoor
