/-
 verify's asks (layer 11): is all that an instruction asks so? Conditions: an object that may be,an instruction of it.
-/
import Derived.Test.YtlmbiafloiompaaGreatDoorJO14
import Derived.Test.YtlmbiafloiompaaGreatDoorJO02
import Derived.Shelf.Abstract
set_option linter.unusedVariables false
set_option linter.unusedSimpArgs false
namespace Go.Proofs.YtlmbiafloiompaaGreatDoor
open Go Go.RowKit
set_option maxRecDepth 100000
theorem zy6 {P:Program} {ops:Array Oper} {o:Oper} {a:Act} {w:World} {K:Act→World→Prop} {Q:Exit→Act→World→Prop} {E:Prop} {f:FuncId} {ts:Array TypeId} {vs:Array Value}
  (hw:Region.wanted o (yielded ops a.tmps)=true) (hen:∀ args w,(callFunc f args).run P w=.ok (.enter f args) w) (xs:Array Operand) (ho:o.op=.call { callee:=.value (.func f),args:=xs,argTypes:=ts })
  (hx:xs.map a.eval=vs) (h:Calls P f vs w fun e w'=>∃ v,e=.returned v∧K (a.put o.dst v) w') :
  if Region.wanted o (yielded ops a.tmps)=true then Oper.wp P o a w K Q else E:=by
 rw [if_pos hw]
 unfold Oper.wp execOp
 simp only [ho,resolve,invoke,Act.eval,Deferred.ofValue,Sem.run_bind,Sem.run_pure,Result.andThen_ok,hen]
 rw [Oper.upon_enter,hx]
 simp only [Array.empty_append,Array.append_empty]
 exact h.mono fun e w' ⟨v,he,hk⟩=>by subst he;exact hk
def asksR (o:Ob) (ar:Int) (op a b:Int) (s:VSt):Bool:=
 if op=1 then setV s b && mayV s a
 else if op=2 then setV s b && termV s a
 else if op=3 ∨ op=4 then setV s b
 else if op=5 then setV s a
 else if op=10 then mayV s a
 else if op=11 then termV s a
 else if op=15 ∨ op=19 then decide (s.env<0)
 else if op=16 then decide (0≤s.env)
 else if op=17 then decide (0≤s.env) && coverV s (arityP o a)
 else if op=18 then decide (s.env<0) && coverV s (arityP o a)
 else if op=20 then decide (s.env<0) && s.neck && coverV s ar
 else if op=23 then s.neck
 else if op=24 then s.neck && mayV s (16+a)
 else if op=25 then decide (a<s.env) && decide (yAt s a=2)
 else if op=26 then setV s 0
 else true
theorem asksV_alt {o:Ob} {ar:Int} {i:Ins} {s:VSt} (h:s.alt≠(decide (i.1=21) || decide (i.1=22))):asksV o ar i s=false:=by unfold asksV;rw [if_pos h]
theorem zi19 {o:Ob} {ar:Int} {i:Ins} {s:VSt} (h:s.alt=(decide (i.1=21) || decide (i.1=22))) (hp:partV i.1=true):asksV o ar i s=asksPart i s:=by unfold asksV;rw [if_neg (fun x=>x h),if_pos hp]
theorem zh19 {o:Ob} {ar:Int} {i:Ins} {s:VSt} (h:s.alt=(decide (i.1=21) || decide (i.1=22))) (hp:partV i.1=false) (hl:s.left≠0):asksV o ar i s=false:=by unfold asksV;rw [if_neg (fun x=>x h),if_neg (by rw [hp];decide),if_pos hl]
theorem zj19 {o:Ob} {ar op a b c d:Int} {s:VSt} (h:s.alt=(decide (op=21) || decide (op=22))) (hp:partV op=false) (hl:s.left=0):asksV o ar (op,a,b,c,d) s=asksR o ar op a b s:=by unfold asksV;rw [if_neg (fun x=>x h),if_neg (by rw [hp];decide),if_neg (fun x=>x hl)];rfl
theorem partV_is (op:Int):(decide (op=6) || decide (op=7) || decide (op=8) || decide (op=9))=partV op:=by
 unfold partV
 rw [Bool.eq_iff_iff]
 simp
 omega
theorem upU {w W W':World} {g ga:Nat} {A:Array Value} {a b c d:Value} (hb:Below W.heap.size W W') (h1:Hid (Box W (g+1+1) 58 A)) (h2:Hid (Box W ga 52 #[a,b,c,d])) (h3:Hid (Below g w W)) (h4:Hid (g≤W.heap.size)) :
  Hid (Box W' (g+1+1) 58 A)∧Hid (Box W' ga 52 #[a,b,c,d])∧Hid (Below g w W')∧Hid (g≤W'.heap.size)∧W'.cell? ⟨ga,0,none⟩=#[a,b,c,d][0]?∧W'.cell? ⟨ga,1,none⟩=#[a,b,c,d][1]?:=
 have h:=h2.out.below hb h2.out.lt
 ⟨hD (h1.out.below hb h1.out.lt),hD h,hD (h3.out.trans (hb.mono h4.out)),hD (Nat.le_trans h4.out hb.size),h.cell 0,h.cell 1⟩
theorem endU {R q:Bool} {w W:World} {g:Nat} (h:Hid (R=q)) (hB:Hid (Below g w W)) (hg:w.heap.size=g):Ending.returned (.bool q)=.returned (.bool R)∧Below w.heap.size w W:=⟨by rw [h.out],by rw [hg];exact hB.out⟩
set_option maxHeartbeats 32000000 in
theorem asks_any {o:Ob} (ho:ObK o) {op a b c d:Int} (hi:InsK o (op,a,b,c,d)) {s:VSt} (hs:StOk s) (ar fr en:Int) (har:0≤ar∧ar≤8) {w:World} {gw gp:Nat} {va vf vp vc:Value} {P:List VPl} (h:WkAt w gw gp va vf vp vc P) (hv:ObAt w va vf vp vc o) :
  Calls Tryz.prog 96 #[.pointer (some ⟨gw,0,none⟩),.agg #[.int .i64 ar,.int .i64 fr,.int .i64 en],.agg #[.int .i64 op,.int .i64 a,.int .i64 b,.int .i64 c,.int .i64 d],.agg (stA s)] w fun e w'=>e=.returned (.bool (asksV o ar (op,a,b,c,d) s))∧Below w.heap.size w w':=by
 obtain⟨A1,c1,rfl⟩:=CellsAt.form hv.atoms
 obtain⟨A2,c2,rfl⟩:=CellsAt.form hv.funs
 obtain⟨A3,cp,rfl⟩:=CellsAt.form hv.preds
 obtain⟨A4,c4,rfl⟩:=CellsAt.form hv.code
 have HV:=hD hv
 have HW:=hD h
 have HS:=hD hs
 have HK:=hD ho
 have hb1:=za w (.cells #[.int .i64 ar,.int .i64 fr,.int .i64 en] 128)
 have hsp:=Box.new w 128 #[.int .i64 ar,.int .i64 fr,.int .i64 en]
 obtain⟨hx1,hx2,hb2⟩:=zn1 (w.alloc (.cells #[.int .i64 ar,.int .i64 fr,.int .i64 en] 128)) #[.int .i64 op,.int .i64 a,.int .i64 b,.int .i64 c,.int .i64 d] (stA s) 65 58
 rw [World.size_alloc] at hx1 hx2 hb2
 have HSP:=hD ((hsp.alloc (.cells #[.int .i64 op,.int .i64 a,.int .i64 b,.int .i64 c,.int .i64 d] 65)).alloc (.cells (stA s) 58))
 have HI:=hD hx1
 have HXs:=hD hx2
 have HB:=hD (hb1.trans (hb2.mono (by omega)))
 clear hb1 hb2 hx1 hx2 hsp hv h ho hs
 have HZ:=hD (zh HS.out)
 have sx:Hid ((stA s)[1]?=some (.int .i64 s.env)∧(stA s)[20]?=some (.bool s.neck)):=hD ⟨zs2 s,zy2 HS.out⟩
 have sl:Hid ((stA s)[18]?=some (.int .i64 s.left)∧(stA s)[19]?=some (.bool s.alt)):=hD ⟨zh1 HS.out,ze3 HS.out⟩
 have HTO:=hD (fun w=>zw7 op w)
 have HIP:=hD (fun w=>zb20 op w)
 have HPV:=hD (partV_is op)
 rw [HPV.out] at HIP
 have HAP:=hD (fun h w=>zx13 op a b c d h HS.out w)
 have HALT:=hD (fun h=>asksV_alt (o:=o) (ar:=ar) (i:=(op,a,b,c,d)) (s:=s) h)
 have HPART:=hD (fun h hp=>zi19 (o:=o) (ar:=ar) (i:=(op,a,b,c,d)) (s:=s) h hp)
 have HLEFT:=hD (fun h hp hl=>zh19 (o:=o) (ar:=ar) (i:=(op,a,b,c,d)) (s:=s) h hp hl)
 have HREST:=hD (fun h hp hl=>zj19 (o:=o) (ar:=ar) (op:=op) (a:=a) (b:=b) (c:=c) (d:=d) (s:=s) h hp hl)
 have hop:=hi.op
 simp only at hop HALT HPART HLEFT
 obtain⟨g,hg⟩:∃ g,w.heap.size=g:=⟨_,rfl⟩
 obtain⟨tw,htw⟩:∃ tw,(decide (op=21) || decide (op=22))=tw:=⟨_,rfl⟩
 have HTW:=hD htw
 rw [htw] at HTO HALT HPART HLEFT HREST
 clear htw
 generalize asksV o ar (op,a,b,c,d) s=RR at HALT HPART HLEFT HREST ⊢
 go_enter Tryz.func96,Tryz.ntmps96
 go_upto_region 1 with(fail)
 obtain⟨w1,hw1⟩:∃ w1,((w.alloc (.cells #[.int .i64 ar,.int .i64 fr,.int .i64 en] 128)).alloc (.cells #[.int .i64 op,.int .i64 a,.int .i64 b,.int .i64 c,.int .i64 d] 65)).alloc (.cells (stA s) 58)=w1:=⟨_,rfl⟩
 rw [hw1] at HI HXs HB HSP ⊢
 rw [hg] at HI HXs HB HSP
 have HG:=hD HB.out.size
 rw [hg] at HG
 clear hw1
 have i0:=HI.out.cell 0
 have x18:=HXs.out.cell 18
 have x19:=HXs.out.cell 19
 rw [sl.out.1] at x18
 rw [sl.out.2] at x19
 have HL18:=hD sl.out.1
 clear sl
 generalize s.left=lf at x18 HLEFT HREST HL18
 generalize s.alt=al at x19 HALT HPART HLEFT HREST
 by_cases ha:al=tw
 case neg=>
  have HR:=hD (HALT.out ha)
  have e1:(al == tw)=false:=beq_eq_false_iff_ne.2 ha
  have e2:(al != tw)=true:=by rw [bne_iff_ne];exact ha
  clear HALT HPART HLEFT HREST ha
  go_quiet ((go_at_call 122;exact Calls.quiet_of_same ((HTO.out _).mono fun _ _ h=>⟨h.1,h.2.symm⟩)))
  go_wp2
  go_ret
  exact endU HR (hD (bel_dn HB.out _)) hg
 case pos=>
 subst ha
 have e1:(al == al)=true:=beq_self_eq_true al
 go_quiet ((go_at_call 122;exact Calls.quiet_of_same ((HTO.out _).mono fun _ _ h=>⟨h.1,h.2.symm⟩)))
 have HI:=hD (HI.out.drewN nq)
 have HXs:=hD (HXs.out.drewN nq)
 have HSP:=hD (HSP.out.drewN nq)
 have HB:=hD (bel_dn HB.out nq)
 have HG:Hid (g≤(w1.drewN nq).heap.size):=hD HG.out
 obtain⟨w2,hw2⟩:∃ w2,w1.drewN nq=w2:=⟨_,rfl⟩
 rw [hw2] at HI HXs HSP HB HG ⊢
 clear hw2 i0 x18 x19
 have i0:=HI.out.cell 0
 have x18:=HXs.out.cell 18
 rw [HL18.out] at x18
 by_cases hpt:partV op=true
 case pos=>
  have HR:=hD (HPART.out rfl hpt)
  have HM:=hD (fun w=>HAP.out (fun h=>hi.rg (by simp only;omega)) w)
  rw [hpt] at HIP
  have i1:=HI.out.cell 1
  have i2:=HI.out.cell 2
  have i3:=HI.out.cell 3
  have i4:=HI.out.cell 4
  clear HALT HPART HLEFT HREST hpt HAP HPV HTO
  generalize stA s=A at HXs HZ sx HL18 HM
  generalize asksPart (op,a,b,c,d) s=q at HR HM
  go_wp2_with (first | (refine zf rfl (.tmp 7) rfl (g+1+1) rfl A HXs.out HZ.out ?_) | (go_at_call 123;refine(HIP.out _).mono ?_;rintro e1 w5 ⟨rfl,rfl⟩) | (go_at_call 124;refine(HM.out _).mono ?_;rintro e1 w5 ⟨rfl,hb5⟩;have HB:=hD (HB.out.trans (hb5.mono HG.out));clear hb5))
  go_ret
  exact endU HR HB hg
 case neg=>
 have hpf:partV op=false:=by simpa using hpt
 rw [hpf] at HIP
 by_cases hl0:lf=0
 case neg=>
  have HR:=hD (HLEFT.out rfl hpf hl0)
  have e0:(lf != 0)=true:=by rw [bne_iff_ne];exact hl0
  clear HALT HPART HLEFT HREST hpt hpf HAP HPV HTO hl0
  generalize stA s=A at HXs HZ sx HL18
  go_wp2_with (go_at_call 123;refine(HIP.out _).mono ?_;rintro e1 w5 ⟨rfl,rfl⟩)
  go_ret
  exact endU HR HB hg
 case pos=>
 have HRR:=hD (HREST.out rfl hpf hl0)
 subst hl0
 have HA0:Hid (al=(decide (op=21) || decide (op=22))):=hD HTW.out.symm
 have hop2:op≠6∧op≠7∧op≠8∧op≠9:=by
  unfold partV at hpf
  simp only [Bool.and_eq_false_iff,decide_eq_false_iff_not] at hpf
  omega
 clear HALT HPART HLEFT HREST hpt HAP HTO
 have i1:=HI.out.cell 1
 have i2:=HI.out.cell 2
 have i3:=HI.out.cell 3
 have i4:=HI.out.cell 4
 go_upto_region 7 with(go_at_call 123;refine(HIP.out _).mono ?_;rintro e1 w5 ⟨rfl,rfl⟩)
 have HN:=hD (Box.new w2 52 #[.int .i64 a,.int .i64 b,.int .i64 c,.int .i64 d])
 have HBW:=hD (HB.out.alloc HG.out (.cells #[.int .i64 a,.int .i64 b,.int .i64 c,.int .i64 d] 52))
 have HI:=hD (HI.out.alloc (.cells #[.int .i64 a,.int .i64 b,.int .i64 c,.int .i64 d] 52))
 have HXs:=hD (HXs.out.alloc (.cells #[.int .i64 a,.int .i64 b,.int .i64 c,.int .i64 d] 52))
 have HSP:=hD (HSP.out.alloc (.cells #[.int .i64 a,.int .i64 b,.int .i64 c,.int .i64 d] 52))
 have HG:Hid (g≤(w2.alloc (.cells #[.int .i64 a,.int .i64 b,.int .i64 c,.int .i64 d] 52)).heap.size):=hD (by simp;have:=HG.out;omega)
 go_upto_region 8 with(fail)
 obtain⟨W1,hW1⟩:∃ W1,w2.alloc (.cells #[.int .i64 a,.int .i64 b,.int .i64 c,.int .i64 d] 52)=W1:=⟨_,rfl⟩
 obtain⟨ga,hga⟩:∃ ga,w2.heap.size=ga:=⟨_,rfl⟩
 rw [hW1] at HN HBW HI HXs HSP HG ⊢
 rw [hga] at HN
 have HB:=HBW
 have HBW:Hid (Below w.heap.size w W1):=hD (by rw [hg];exact HB.out)
 clear hW1 i0 i1 i2 i3 i4 x18 HIP HPV hpf HL18 HTW HA0
 have i0:=HI.out.cell 0
 have n0:=HN.out.cell 0
 have n1:=HN.out.cell 1
 go_upto_region 9 with(fail)
 obtain⟨h6,h7,h8,h9⟩:=hop2
 have hcs:op=0 ∨ op=1 ∨ op=2 ∨ op=3 ∨ op=4 ∨ op=5 ∨ op=10 ∨ op=11 ∨ op=12 ∨ op=13 ∨ op=14 ∨ op=15 ∨ op=16 ∨ op=17 ∨ op=18 ∨ op=19 ∨ op=20 ∨ op=21 ∨ op=22 ∨ op=23 ∨ op=24 ∨ op=25 ∨ op=26:=by omega
 clear h6 h7 h8 h9 hop
 rcases hcs with rfl | rfl | rfl | rfl | rfl | rfl | rfl | rfl | rfl | rfl | rfl | rfl | rfl | rfl | rfl | rfl | rfl | rfl | rfl | rfl | rfl | rfl | rfl
 ·-- 0
  have HR:Hid (RR=true):=hD (HRR.out.trans rfl)
  generalize stA s=A at HXs HZ sx 
  go_wp2
  go_ret
  exact endU HR HB hg
 ·-- 1
  have HSB:=hD (fun w=>zc4 HS.out b (hi.xb (by simp)).1 (hi.xb (by simp)).2 w)
  have HMA:=hD (fun w=>zz12 HS.out a (hi.rg (by simp)).1 (hi.rg (by simp)).2 w)
  have HR0:Hid (RR=(setV s b && mayV s a)):=hD (HRR.out.trans rfl)
  generalize stA s=A at HXs HZ HSB HMA sx
  generalize mayV s a=q at HMA HR0
  cases hq:setV s b with
  | false=>
   rw [hq] at HSB HR0
   have HR:Hid (RR=false):=hD (by rw [HR0.out,Bool.false_and])
   go_wp2_with (first | (refine zf rfl (.tmp 7) rfl (g+1+1) rfl A HXs.out HZ.out ?_) | (go_at_call 125;refine(HSB.out _).mono ?_;rintro e1 w5 ⟨rfl,hb5⟩;obtain⟨HXs,HN,HB,HG,n0,n1⟩:=upU hb5 HXs HN HB HG;clear hb5))
   go_ret
   exact endU HR HB hg
  | true=>
   rw [hq] at HSB HR0
   have HR:Hid (RR=q):=hD (by rw [HR0.out,Bool.true_and])
   go_wp2_with (first | (refine zf rfl (.tmp 7) rfl (g+1+1) rfl A HXs.out HZ.out ?_) | (refine zk1 (by kernel_rfl) (.tmp 7) rfl (g+1+1) rfl A HXs.out HZ.out ?_) | (go_at_call 125;refine(HSB.out _).mono ?_;rintro e1 w5 ⟨rfl,hb5⟩;obtain⟨HXs,HN,HB,HG,n0,n1⟩:=upU hb5 HXs HN HB HG;clear hb5) | (go_at_call 126;refine(HMA.out _).mono ?_;rintro e1 w5 ⟨rfl,hb5⟩;obtain⟨HXs,HN,HB,HG,n0,n1⟩:=upU hb5 HXs HN HB HG;clear hb5))
   go_ret
   exact endU HR HB hg
 ·-- 2
  have HSB:=hD (fun w=>zc4 HS.out b (hi.xb (by simp)).1 (hi.xb (by simp)).2 w)
  have HTA:=hD (fun w=>zq9 HS.out a (hi.rg (by simp)).1 (hi.rg (by simp)).2 w)
  have HR0:Hid (RR=(setV s b && termV s a)):=hD (HRR.out.trans rfl)
  generalize stA s=A at HXs HZ HSB HTA sx
  generalize termV s a=q at HTA HR0
  cases hq:setV s b with
  | false=>
   rw [hq] at HSB HR0
   have HR:Hid (RR=false):=hD (by rw [HR0.out,Bool.false_and])
   go_wp2_with (first | (refine zf rfl (.tmp 7) rfl (g+1+1) rfl A HXs.out HZ.out ?_) | (go_at_call 125;refine(HSB.out _).mono ?_;rintro e1 w5 ⟨rfl,hb5⟩;obtain⟨HXs,HN,HB,HG,n0,n1⟩:=upU hb5 HXs HN HB HG;clear hb5))
   go_ret
   exact endU HR HB hg
  | true=>
   rw [hq] at HSB HR0
   have HR:Hid (RR=q):=hD (by rw [HR0.out,Bool.true_and])
   go_wp2_with (first | (refine zf rfl (.tmp 7) rfl (g+1+1) rfl A HXs.out HZ.out ?_) | (refine zk1 (by kernel_rfl) (.tmp 7) rfl (g+1+1) rfl A HXs.out HZ.out ?_) | (go_at_call 125;refine(HSB.out _).mono ?_;rintro e1 w5 ⟨rfl,hb5⟩;obtain⟨HXs,HN,HB,HG,n0,n1⟩:=upU hb5 HXs HN HB HG;clear hb5) | (go_at_call 127;refine(HTA.out _).mono ?_;rintro e1 w5 ⟨rfl,hb5⟩;obtain⟨HXs,HN,HB,HG,n0,n1⟩:=upU hb5 HXs HN HB HG;clear hb5))
   go_ret
   exact endU HR HB hg
 ·-- 3
  have HSB:=hD (fun w=>zc4 HS.out b (hi.xb (by simp)).1 (hi.xb (by simp)).2 w)
  have HR:Hid (RR=setV s b):=hD (HRR.out.trans rfl)
  generalize stA s=A at HXs HZ sx HSB
  generalize setV s b=q at HSB HR
  go_wp2_with (first | (refine zf rfl (.tmp 7) rfl (g+1+1) rfl A HXs.out HZ.out ?_) | (go_at_call 125;refine(HSB.out _).mono ?_;rintro e1 w5 ⟨rfl,hb5⟩;obtain⟨HXs,HN,HB,HG,n0,n1⟩:=upU hb5 HXs HN HB HG;clear hb5))
  go_ret
  exact endU HR HB hg
 ·-- 4
  have HSB:=hD (fun w=>zc4 HS.out b (hi.xb (by simp)).1 (hi.xb (by simp)).2 w)
  have HR:Hid (RR=setV s b):=hD (HRR.out.trans rfl)
  generalize stA s=A at HXs HZ sx HSB
  generalize setV s b=q at HSB HR
  go_wp2_with (first | (refine zf rfl (.tmp 7) rfl (g+1+1) rfl A HXs.out HZ.out ?_) | (go_at_call 125;refine(HSB.out _).mono ?_;rintro e1 w5 ⟨rfl,hb5⟩;obtain⟨HXs,HN,HB,HG,n0,n1⟩:=upU hb5 HXs HN HB HG;clear hb5))
  go_ret
  exact endU HR HB hg
 ·-- 5
  have HSA:=hD (fun w=>zc4 HS.out a (hi.xa (by simp)).1 (hi.xa (by simp)).2 w)
  have HR:Hid (RR=setV s a):=hD (HRR.out.trans rfl)
  generalize stA s=A at HXs HZ sx HSA
  generalize setV s a=q at HSA HR
  go_wp2_with (first | (refine zf rfl (.tmp 7) rfl (g+1+1) rfl A HXs.out HZ.out ?_) | (go_at_call 125;refine(HSA.out _).mono ?_;rintro e1 w5 ⟨rfl,hb5⟩;obtain⟨HXs,HN,HB,HG,n0,n1⟩:=upU hb5 HXs HN HB HG;clear hb5))
  go_ret
  exact endU HR HB hg
 ·-- 10
  have HMA:=hD (fun w=>zz12 HS.out a (hi.rg (by simp)).1 (hi.rg (by simp)).2 w)
  have HR:Hid (RR=mayV s a):=hD (HRR.out.trans rfl)
  generalize stA s=A at HXs HZ sx HMA
  generalize mayV s a=q at HMA HR
  go_wp2_with (first | (refine zf rfl (.tmp 7) rfl (g+1+1) rfl A HXs.out HZ.out ?_) | (go_at_call 126;refine(HMA.out _).mono ?_;rintro e1 w5 ⟨rfl,hb5⟩;obtain⟨HXs,HN,HB,HG,n0,n1⟩:=upU hb5 HXs HN HB HG;clear hb5))
  go_ret
  exact endU HR HB hg
 ·-- 11
  have HTA:=hD (fun w=>zq9 HS.out a (hi.rg (by simp)).1 (hi.rg (by simp)).2 w)
  have HR:Hid (RR=termV s a):=hD (HRR.out.trans rfl)
  generalize stA s=A at HXs HZ sx HTA
  generalize termV s a=q at HTA HR
  go_wp2_with (first | (refine zf rfl (.tmp 7) rfl (g+1+1) rfl A HXs.out HZ.out ?_) | (go_at_call 127;refine(HTA.out _).mono ?_;rintro e1 w5 ⟨rfl,hb5⟩;obtain⟨HXs,HN,HB,HG,n0,n1⟩:=upU hb5 HXs HN HB HG;clear hb5))
  go_ret
  exact endU HR HB hg
 ·-- 12
  have HR:Hid (RR=true):=hD (HRR.out.trans rfl)
  generalize stA s=A at HXs HZ sx 
  go_wp2
  go_ret
  exact endU HR HB hg
 ·-- 13
  have HR:Hid (RR=true):=hD (HRR.out.trans rfl)
  generalize stA s=A at HXs HZ sx 
  go_wp2
  go_ret
  exact endU HR HB hg
 ·-- 14
  have HR:Hid (RR=true):=hD (HRR.out.trans rfl)
  generalize stA s=A at HXs HZ sx 
  go_wp2
  go_ret
  exact endU HR HB hg
 ·-- 15
  have HR:Hid (RR=decide (s.env<0)):=hD (HRR.out.trans rfl)
  generalize stA s=A at HXs HZ sx 
  have x1:=HXs.out.cell 1
  have x5:=HXs.out.cell 20
  rw [sx.out.1] at x1
  rw [sx.out.2] at x5
  generalize s.env=en_ at x1 HR
  go_wp2
  go_ret
  exact endU HR HB hg
 ·-- 16
  have HR:Hid (RR=decide (0≤s.env)):=hD (HRR.out.trans rfl)
  generalize stA s=A at HXs HZ sx 
  have x1:=HXs.out.cell 1
  have x5:=HXs.out.cell 20
  rw [sx.out.1] at x1
  rw [sx.out.2] at x5
  generalize s.env=en_ at x1 HR
  go_wp2
  go_ret
  exact endU HR HB hg
 ·-- 17
  obtain⟨hp0,hp1⟩:=hi.pa (by simp)
  simp only at hp0 hp1
  obtain⟨ak,rfl⟩:∃ ak:Nat,a=(ak:Int):=⟨a.toNat,by omega⟩
  have hak:ak<o.preds.length:=by omega
  obtain⟨bp,of,rfl,hbp,_,hc5,_⟩:=zd1 HV.out.preds ak hak
  have har2:arityP o (ak:Int)=o.preds[ak].2.1:=by
   unfold arityP
   rw [Int.toNat_natCast,List.getD_eq_getElem?_getD,List.getElem?_eq_getElem hak]
   rfl
  have haps:=zg2 HK.out (ak:Int)
  rw [har2] at haps
  have HCV:=hD (fun w=>zu5 HS.out o.preds[ak].2.1.toNat (by omega) w)
  have har3:((o.preds[ak].2.1.toNat:Nat):Int)=o.preds[ak].2.1:=by omega
  rw [har3] at HCV
  have HR0:Hid (RR=(decide (0≤s.env) && coverV s o.preds[ak].2.1)):=hD (by rw [← har2];exact HRR.out.trans rfl)
  have c5:=(HBW.out.cell (p:=⟨bp,of+ak * 3+1,none⟩) hbp).trans hc5
  have q2:=(HBW.out.cell (p:=⟨gw,2,none⟩) HW.out.wk.lt).trans (HW.out.wk.cell 2)
  clear har2 har3 haps hc5
  generalize coverV s o.preds[ak].2.1=q at HCV HR0
  generalize o.preds[ak].2.1=ap at HCV c5
  generalize stA s=A at HXs HZ sx HCV
  have x1:=HXs.out.cell 1
  have x5:=HXs.out.cell 20
  rw [sx.out.1] at x1
  rw [sx.out.2] at x5
  generalize s.env=en_ at x1 HR0
  by_cases hen:0≤en_
  ·have HR:Hid (RR=q):=hD (by rw [HR0.out,decide_eq_true hen,Bool.true_and])
   have i2:(ak:Int)<(o.preds.length:Int):=by omega
   have i3:(0:Int)≤(ak:Int):=by omega
   go_upto_region 28 with(fail)
   refine wp_region_noPanic ?_
   refine zt 99 (fun w'=>w'.cell? ⟨g+1+1,1,none⟩=some (.int .i64 en_)∧w'.rangeAt (g+1+1) 0 A.toList∧w'.cell? ⟨gw,2,none⟩=some (.slice (some ⟨bp,of,none⟩) o.preds.length cp)∧w'.cell? ⟨ga,0,none⟩=some (.int .i64 ((ak:Nat):Int))∧w'.cell? ⟨bp,of+ak * 3+1,none⟩=some (.int .i64 ap)) (by kernel_rfl) ?_ (fun hHeld=>?_)
   ·exact⟨x1,(World.rangeAt_drew _ _ _ _).2 (zc2 HXs.out),q2,n0,c5⟩
   change wpAnyT _ _ _ _ _ _ _ _ _ W1.drew
   have HX2:=hD HXs.out.drew
   have HN2:=hD HN.out.drew
   have HB2:=hD (bel_dn HB.out 1)
   change Hid (Below g w W1.drew) at HB2
   replace hHeld:W1.drew.cell? ⟨g+1+1,1,none⟩=some (.int .i64 en_)∧W1.drew.rangeAt (g+1+1) 0 A.toList∧W1.drew.cell? ⟨gw,2,none⟩=some (.slice (some ⟨bp,of,none⟩) o.preds.length cp)∧W1.drew.cell? ⟨ga,0,none⟩=some (.int .i64 ((ak:Nat):Int))∧W1.drew.cell? ⟨bp,of+ak * 3+1,none⟩=some (.int .i64 ap):=hHeld
   have HG2:Hid (g≤W1.drew.heap.size):=hD HG.out
   generalize W1.drew=w2 at HX2 HN2 HB2 HG2 hHeld ⊢
   have HH3:Hid (∀ W,Below w2.heap.size w2 W→W.cell? ⟨g+1+1,1,none⟩=some (.int .i64 en_)∧W.rangeAt (g+1+1) 0 A.toList∧W.cell? ⟨gw,2,none⟩=some (.slice (some ⟨bp,of,none⟩) o.preds.length cp)∧W.cell? ⟨ga,0,none⟩=some (.int .i64 ((ak:Nat):Int))∧W.cell? ⟨bp,of+ak * 3+1,none⟩=some (.int .i64 ap)):=hD (fun W hW=>⟨(hW.cell (p:=⟨g+1+1,1,none⟩) HX2.out.lt).trans hHeld.1,zc2 (HX2.out.below hW HX2.out.lt),(hW.cell (p:=⟨gw,2,none⟩) (World.block_lt_of_cell? w2 _ hHeld.2.2.1)).trans hHeld.2.2.1,(hW.cell (p:=⟨ga,0,none⟩) (World.block_lt_of_cell? w2 _ hHeld.2.2.2.1)).trans hHeld.2.2.2.1,(hW.cell (p:=⟨bp,of+ak * 3+1,none⟩) (World.block_lt_of_cell? w2 _ hHeld.2.2.2.2)).trans hHeld.2.2.2.2⟩)
   refine tP (i:=0) (v:=?_) rfl ?_ ?_
   rotate_left
   ·(intro w hSw;(try dsimp only at hSw);go_simp;try with_reducible rfl)
   try simp only [qA,qB,qC,Act.put,qD,qE,qF]
   refine tS (i:=1) (v:=?_) rfl ?_ hHeld ?_
   rotate_left
   ·intro w hSw
    try dsimp only at hSw
    obtain⟨h1,h2,h3,h4,h5⟩:=hSw
    go_simp
    try with_reducible rfl
   try simp only [qA,qB,qC,Act.put,qD,qE,qF]
   have st:Stp [2,3]:=trivial
   iterate 2
    refine tPL st (v:=?_) rfl ?_ ?_
    rotate_left
    ·(intro w hSw;(try dsimp only at hSw);go_simp;try with_reducible rfl)
    replace st:=st.tl
    try simp only [qA,qB,qC,Act.put,qD,qE,qF]
   refine tkS (i:=4) (v:=.agg A) rfl (fun _ _ _ h=>h) (zs1 (by kernel_rfl) (.tmp 7) rfl (g+1+1) 0 rfl A HZ.out (fun w hSw=>hSw.2.1)) hHeld ?_
   try simp only [qA,qB,qC,Act.put,qD,qE,qF]
   have st:Stp [5,6,7,8]:=trivial
   iterate 4
    refine tPL st (v:=?_) rfl ?_ ?_
    rotate_left
    ·(intro w hSw;(try dsimp only at hSw);go_simp;try with_reducible rfl)
    replace st:=st.tl
    try simp only [qA,qB,qC,Act.put,qD,qE,qF]
   refine tS (i:=9) (v:=?_) rfl ?_ hHeld ?_
   rotate_left
   ·intro w hSw
    try dsimp only at hSw
    obtain⟨h1,h2,h3,h4,h5⟩:=hSw
    go_simp
    try with_reducible rfl
   try simp only [qA,qB,qC,Act.put,qD,qE,qF]
   refine tP (i:=10) (v:=?_) rfl ?_ ?_
   rotate_left
   ·(intro w hSw;(try dsimp only at hSw);go_simp;try with_reducible rfl)
   try simp only [qA,qB,qC,Act.put,qD,qE,qF]
   refine tS (i:=11) (v:=?_) rfl ?_ hHeld ?_
   rotate_left
   ·intro w hSw
    try dsimp only at hSw
    obtain⟨h1,h2,h3,h4,h5⟩:=hSw
    go_simp
    try with_reducible rfl
   try simp only [qA,qB,qC,Act.put,qD,qE,qF]
   have st:Stp [12,13]:=trivial
   iterate 2
    refine tPL st (v:=?_) rfl ?_ ?_
    rotate_left
    ·(intro w hSw;(try dsimp only at hSw);go_simp;try with_reducible rfl)
    replace st:=st.tl
    try simp only [qA,qB,qC,Act.put,qD,qE,qF]
   refine tS (i:=14) (v:=?_) rfl ?_ hHeld ?_
   rotate_left
   ·intro w hSw
    try dsimp only at hSw
    obtain⟨h1,h2,h3,h4,h5⟩:=hSw
    go_simp
    try with_reducible rfl
   try simp only [qA,qB,qC,Act.put,qD,qE,qF]
   refine wT1 (i:=15) (by kernel_rfl) rfl fun K hK=>?_
   refine zy6 (vs:=#[.agg A,.int .i64 ap]) (by kernel_rfl) (enters_of Tryz.func128 (by kernel_rfl) rfl) _ rfl (by kernel_rfl) ?_
   refine(HCV.out w2).mono ?_
   rintro e1 w3 ⟨rfl,hb3⟩
   refine⟨_,rfl,?_⟩
   have HB3:=hD (HB2.out.trans (hb3.mono HG2.out))
   have hb3k:=hb3
   clear hb3
   refine hK.out _ _ (fun _=>?_) (fun hHeld2=>?_)
   ·exact HH3.out _ hb3k
   replace hHeld:=hHeld2 (by decide)
   clear hHeld2 hK K
   try simp only [qA,qB,qC,Act.put,qD,qE,qF]
   have st:Stp [16,17]:=trivial
   iterate 2
    refine tPL st (v:=?_) rfl ?_ ?_
    rotate_left
    ·(intro w hSw;(try dsimp only at hSw);go_simp;try with_reducible rfl)
    replace st:=st.tl
    try simp only [qA,qB,qC,Act.put,qD,qE,qF]
   refine zn (by kernel_rfl) (NoPanic.normal ?_) _
   have HB:=hD HB3.out
   go_wp2
   go_ret
   exact endU HR HB hg
  ·have HR:Hid (RR=false):=hD (by rw [HR0.out,decide_eq_false hen,Bool.false_and])
   go_upto_region 28 with(fail)
   go_quiet (fail)
   have HB:=hD (bel_dn HB.out nq)
   go_wp2
   go_ret
   exact⟨by rw [HR.out];rfl,HB.out⟩
 ·-- 18
  obtain⟨hp0,hp1⟩:=hi.pa (by simp)
  simp only at hp0 hp1
  obtain⟨ak,rfl⟩:∃ ak:Nat,a=(ak:Int):=⟨a.toNat,by omega⟩
  have hak:ak<o.preds.length:=by omega
  obtain⟨bp,of,rfl,hbp,_,hc5,_⟩:=zd1 HV.out.preds ak hak
  have har2:arityP o (ak:Int)=o.preds[ak].2.1:=by
   unfold arityP
   rw [Int.toNat_natCast,List.getD_eq_getElem?_getD,List.getElem?_eq_getElem hak]
   rfl
  have haps:=zg2 HK.out (ak:Int)
  rw [har2] at haps
  have HCV:=hD (fun w=>zu5 HS.out o.preds[ak].2.1.toNat (by omega) w)
  have har3:((o.preds[ak].2.1.toNat:Nat):Int)=o.preds[ak].2.1:=by omega
  rw [har3] at HCV
  have HR0:Hid (RR=(decide (s.env<0) && coverV s o.preds[ak].2.1)):=hD (by rw [← har2];exact HRR.out.trans rfl)
  have c5:=(HBW.out.cell (p:=⟨bp,of+ak * 3+1,none⟩) hbp).trans hc5
  have q2:=(HBW.out.cell (p:=⟨gw,2,none⟩) HW.out.wk.lt).trans (HW.out.wk.cell 2)
  clear har2 har3 haps hc5
  generalize coverV s o.preds[ak].2.1=q at HCV HR0
  generalize o.preds[ak].2.1=ap at HCV c5
  generalize stA s=A at HXs HZ sx HCV
  have x1:=HXs.out.cell 1
  have x5:=HXs.out.cell 20
  rw [sx.out.1] at x1
  rw [sx.out.2] at x5
  generalize s.env=en_ at x1 HR0
  by_cases hen:en_<0
  ·have HR:Hid (RR=q):=hD (by rw [HR0.out,decide_eq_true hen,Bool.true_and])
   have i2:(ak:Int)<(o.preds.length:Int):=by omega
   have i3:(0:Int)≤(ak:Int):=by omega
   go_upto_region 30 with(fail)
   refine wp_region_noPanic ?_
   refine zt 99 (fun w'=>w'.cell? ⟨g+1+1,1,none⟩=some (.int .i64 en_)∧w'.rangeAt (g+1+1) 0 A.toList∧w'.cell? ⟨gw,2,none⟩=some (.slice (some ⟨bp,of,none⟩) o.preds.length cp)∧w'.cell? ⟨ga,0,none⟩=some (.int .i64 ((ak:Nat):Int))∧w'.cell? ⟨bp,of+ak * 3+1,none⟩=some (.int .i64 ap)) (by kernel_rfl) ?_ (fun hHeld=>?_)
   ·exact⟨x1,(World.rangeAt_drew _ _ _ _).2 (zc2 HXs.out),q2,n0,c5⟩
   change wpAnyT _ _ _ _ _ _ _ _ _ W1.drew
   have HX2:=hD HXs.out.drew
   have HN2:=hD HN.out.drew
   have HB2:=hD (bel_dn HB.out 1)
   change Hid (Below g w W1.drew) at HB2
   replace hHeld:W1.drew.cell? ⟨g+1+1,1,none⟩=some (.int .i64 en_)∧W1.drew.rangeAt (g+1+1) 0 A.toList∧W1.drew.cell? ⟨gw,2,none⟩=some (.slice (some ⟨bp,of,none⟩) o.preds.length cp)∧W1.drew.cell? ⟨ga,0,none⟩=some (.int .i64 ((ak:Nat):Int))∧W1.drew.cell? ⟨bp,of+ak * 3+1,none⟩=some (.int .i64 ap):=hHeld
   have HG2:Hid (g≤W1.drew.heap.size):=hD HG.out
   generalize W1.drew=w2 at HX2 HN2 HB2 HG2 hHeld ⊢
   have HH3:Hid (∀ W,Below w2.heap.size w2 W→W.cell? ⟨g+1+1,1,none⟩=some (.int .i64 en_)∧W.rangeAt (g+1+1) 0 A.toList∧W.cell? ⟨gw,2,none⟩=some (.slice (some ⟨bp,of,none⟩) o.preds.length cp)∧W.cell? ⟨ga,0,none⟩=some (.int .i64 ((ak:Nat):Int))∧W.cell? ⟨bp,of+ak * 3+1,none⟩=some (.int .i64 ap)):=hD (fun W hW=>⟨(hW.cell (p:=⟨g+1+1,1,none⟩) HX2.out.lt).trans hHeld.1,zc2 (HX2.out.below hW HX2.out.lt),(hW.cell (p:=⟨gw,2,none⟩) (World.block_lt_of_cell? w2 _ hHeld.2.2.1)).trans hHeld.2.2.1,(hW.cell (p:=⟨ga,0,none⟩) (World.block_lt_of_cell? w2 _ hHeld.2.2.2.1)).trans hHeld.2.2.2.1,(hW.cell (p:=⟨bp,of+ak * 3+1,none⟩) (World.block_lt_of_cell? w2 _ hHeld.2.2.2.2)).trans hHeld.2.2.2.2⟩)
   refine tP (i:=0) (v:=?_) rfl ?_ ?_
   rotate_left
   ·(intro w hSw;(try dsimp only at hSw);go_simp;try with_reducible rfl)
   try simp only [qA,qB,qC,Act.put,qD,qE,qF]
   refine tS (i:=1) (v:=?_) rfl ?_ hHeld ?_
   rotate_left
   ·intro w hSw
    try dsimp only at hSw
    obtain⟨h1,h2,h3,h4,h5⟩:=hSw
    go_simp
    try with_reducible rfl
   try simp only [qA,qB,qC,Act.put,qD,qE,qF]
   have st:Stp [2,3]:=trivial
   iterate 2
    refine tPL st (v:=?_) rfl ?_ ?_
    rotate_left
    ·(intro w hSw;(try dsimp only at hSw);go_simp;try with_reducible rfl)
    replace st:=st.tl
    try simp only [qA,qB,qC,Act.put,qD,qE,qF]
   refine tkS (i:=4) (v:=.agg A) rfl (fun _ _ _ h=>h) (zs1 (by kernel_rfl) (.tmp 7) rfl (g+1+1) 0 rfl A HZ.out (fun w hSw=>hSw.2.1)) hHeld ?_
   try simp only [qA,qB,qC,Act.put,qD,qE,qF]
   have st:Stp [5,6,7,8]:=trivial
   iterate 4
    refine tPL st (v:=?_) rfl ?_ ?_
    rotate_left
    ·(intro w hSw;(try dsimp only at hSw);go_simp;try with_reducible rfl)
    replace st:=st.tl
    try simp only [qA,qB,qC,Act.put,qD,qE,qF]
   refine tS (i:=9) (v:=?_) rfl ?_ hHeld ?_
   rotate_left
   ·intro w hSw
    try dsimp only at hSw
    obtain⟨h1,h2,h3,h4,h5⟩:=hSw
    go_simp
    try with_reducible rfl
   try simp only [qA,qB,qC,Act.put,qD,qE,qF]
   refine tP (i:=10) (v:=?_) rfl ?_ ?_
   rotate_left
   ·(intro w hSw;(try dsimp only at hSw);go_simp;try with_reducible rfl)
   try simp only [qA,qB,qC,Act.put,qD,qE,qF]
   refine tS (i:=11) (v:=?_) rfl ?_ hHeld ?_
   rotate_left
   ·intro w hSw
    try dsimp only at hSw
    obtain⟨h1,h2,h3,h4,h5⟩:=hSw
    go_simp
    try with_reducible rfl
   try simp only [qA,qB,qC,Act.put,qD,qE,qF]
   have st:Stp [12,13]:=trivial
   iterate 2
    refine tPL st (v:=?_) rfl ?_ ?_
    rotate_left
    ·(intro w hSw;(try dsimp only at hSw);go_simp;try with_reducible rfl)
    replace st:=st.tl
    try simp only [qA,qB,qC,Act.put,qD,qE,qF]
   refine tS (i:=14) (v:=?_) rfl ?_ hHeld ?_
   rotate_left
   ·intro w hSw
    try dsimp only at hSw
    obtain⟨h1,h2,h3,h4,h5⟩:=hSw
    go_simp
    try with_reducible rfl
   try simp only [qA,qB,qC,Act.put,qD,qE,qF]
   refine wT1 (i:=15) (by kernel_rfl) rfl fun K hK=>?_
   refine zy6 (vs:=#[.agg A,.int .i64 ap]) (by kernel_rfl) (enters_of Tryz.func128 (by kernel_rfl) rfl) _ rfl (by kernel_rfl) ?_
   refine(HCV.out w2).mono ?_
   rintro e1 w3 ⟨rfl,hb3⟩
   refine⟨_,rfl,?_⟩
   have HB3:=hD (HB2.out.trans (hb3.mono HG2.out))
   have hb3k:=hb3
   clear hb3
   refine hK.out _ _ (fun _=>?_) (fun hHeld2=>?_)
   ·exact HH3.out _ hb3k
   replace hHeld:=hHeld2 (by decide)
   clear hHeld2 hK K
   try simp only [qA,qB,qC,Act.put,qD,qE,qF]
   have st:Stp [16,17]:=trivial
   iterate 2
    refine tPL st (v:=?_) rfl ?_ ?_
    rotate_left
    ·(intro w hSw;(try dsimp only at hSw);go_simp;try with_reducible rfl)
    replace st:=st.tl
    try simp only [qA,qB,qC,Act.put,qD,qE,qF]
   refine zn (by kernel_rfl) (NoPanic.normal ?_) _
   have HB:=hD HB3.out
   go_wp2
   go_ret
   exact endU HR HB hg
  ·have HR:Hid (RR=false):=hD (by rw [HR0.out,decide_eq_false hen,Bool.false_and])
   go_upto_region 30 with(fail)
   go_quiet (fail)
   have HB:=hD (bel_dn HB.out nq)
   go_wp2
   go_ret
   exact⟨by rw [HR.out];rfl,HB.out⟩
 ·-- 19
  have HR:Hid (RR=decide (s.env<0)):=hD (HRR.out.trans rfl)
  generalize stA s=A at HXs HZ sx 
  have x1:=HXs.out.cell 1
  have x5:=HXs.out.cell 20
  rw [sx.out.1] at x1
  rw [sx.out.2] at x5
  generalize s.env=en_ at x1 HR
  go_wp2
  go_ret
  exact endU HR HB hg
 ·-- 20
  have HCV:=hD (fun w=>zu5 HS.out ar.toNat (by omega) w)
  have HR0:Hid (RR=(decide (s.env<0) && s.neck && coverV s ar)):=hD (HRR.out.trans rfl)
  have har2:((ar.toNat:Nat):Int)=ar:=by omega
  rw [har2] at HCV
  generalize stA s=A at HXs HZ sx HCV
  generalize coverV s ar=q at HCV HR0
  have x1:=HXs.out.cell 1
  have x5:=HXs.out.cell 20
  rw [sx.out.1] at x1
  rw [sx.out.2] at x5
  have p0:=HSP.out.cell 0
  generalize s.neck=nk at x5 HR0
  generalize s.env=en_ at x1 HR0
  by_cases hen:en_<0
  ·cases nk with
   | false=>
    have HR:Hid (RR=false):=hD (by rw [HR0.out,Bool.and_false,Bool.false_and])
    go_wp2
    go_ret
    exact endU HR HB hg
   | true=>
    have HR:Hid (RR=q):=hD (by rw [HR0.out,decide_eq_true hen];rfl)
    go_wp2_with (first | (refine zf rfl (.tmp 7) rfl (g+1+1) rfl A HXs.out HZ.out ?_) | (refine zk1 (by kernel_rfl) (.tmp 7) rfl (g+1+1) rfl A HXs.out HZ.out ?_) | (go_at_call 128;refine(HCV.out _).mono ?_;rintro e1 w5 ⟨rfl,hb5⟩;obtain⟨HXs,HN,HB,HG,n0,n1⟩:=upU hb5 HXs HN HB HG;clear hb5))
    go_ret
    exact endU HR HB hg
  ·have HR:Hid (RR=false):=hD (by rw [HR0.out,decide_eq_false hen];rfl)
   go_wp2
   go_ret
   exact⟨by rw [HR.out];rfl,HB.out⟩
 ·-- 21
  have HR:Hid (RR=true):=hD (HRR.out.trans rfl)
  generalize stA s=A at HXs HZ sx 
  go_wp2
  go_ret
  exact endU HR HB hg
 ·-- 22
  have HR:Hid (RR=true):=hD (HRR.out.trans rfl)
  generalize stA s=A at HXs HZ sx 
  go_wp2
  go_ret
  exact endU HR HB hg
 ·-- 23
  have HR:Hid (RR=s.neck):=hD (HRR.out.trans rfl)
  generalize stA s=A at HXs HZ sx 
  have x1:=HXs.out.cell 1
  have x5:=HXs.out.cell 20
  rw [sx.out.1] at x1
  rw [sx.out.2] at x5
  generalize s.neck=nk at x5 HR
  go_wp2
  go_ret
  exact endU HR HB hg
 ·-- 24
  have HHA:=hD (fun w=>has_st HS.out a (hi.ya (by simp)).1 (hi.ya (by simp)).2 w)
  have HR0:Hid (RR=(s.neck && ((if s.env≤a then -1 else yAt s a) == 0))):=hD (by
   rw [HRR.out,has_eq s.env a (yAt s a) 0 (by decide)]
   have hy:=hi.ya (by simp)
   have e1:asksR o ar 24 a b s=(s.neck && mayV s (16+a)):=rfl
   rw [e1]
   unfold mayV
   rw [decide_eq_false (show ¬ (16+a<16) by have h1:=hy.1;simp only at h1;omega),show 16+a - 16=a by omega,Bool.false_or])
  generalize stA s=A at HXs HZ sx HHA
  generalize (if s.env≤a then -1 else yAt s a)=q at HHA HR0
  have x1:=HXs.out.cell 1
  have x5:=HXs.out.cell 20
  rw [sx.out.1] at x1
  rw [sx.out.2] at x5
  generalize s.neck=nk at x5 HR0
  cases nk with
  | false=>
   have HR:Hid (RR=false):=hD (by rw [HR0.out,Bool.false_and])
   go_wp2
   go_ret
   exact endU HR HB hg
  | true=>
   have HR:Hid (RR=(q == 0)):=hD (by rw [HR0.out,Bool.true_and])
   go_wp2_with (first | (refine zf rfl (.tmp 7) rfl (g+1+1) rfl A HXs.out HZ.out ?_) | (refine zk1 (by kernel_rfl) (.tmp 7) rfl (g+1+1) rfl A HXs.out HZ.out ?_) | (go_at_call 129;refine(HHA.out _).mono ?_;rintro e1 w5 ⟨rfl,hb5⟩;obtain⟨HXs,HN,HB,HG,n0,n1⟩:=upU hb5 HXs HN HB HG;clear hb5))
   go_ret
   exact endU HR HB hg
 ·-- 25
  have HHA:=hD (fun w=>has_st HS.out a (hi.ya (by simp)).1 (hi.ya (by simp)).2 w)
  have HR:Hid (RR=((if s.env≤a then -1 else yAt s a) == 2)):=hD (HRR.out.trans (has_eq s.env a (yAt s a) 2 (by decide)).symm)
  generalize stA s=A at HXs HZ sx HHA
  generalize (if s.env≤a then -1 else yAt s a)=q at HHA HR
  go_wp2_with (first | (refine zf rfl (.tmp 7) rfl (g+1+1) rfl A HXs.out HZ.out ?_) | (go_at_call 129;refine(HHA.out _).mono ?_;rintro e1 w5 ⟨rfl,hb5⟩;obtain⟨HXs,HN,HB,HG,n0,n1⟩:=upU hb5 HXs HN HB HG;clear hb5))
  go_ret
  exact endU HR HB hg
 ·-- 26
  have HS0:=hD (fun w=>zc4 HS.out 0 (by decide) (by decide) w)
  have HR:Hid (RR=setV s 0):=hD (HRR.out.trans rfl)
  generalize stA s=A at HXs HZ sx HS0
  generalize setV s 0=q at HS0 HR
  go_wp2_with (first | (refine zf rfl (.tmp 7) rfl (g+1+1) rfl A HXs.out HZ.out ?_) | (go_at_call 125;refine(HS0.out _).mono ?_;rintro e1 w5 ⟨rfl,hb5⟩;obtain⟨HXs,HN,HB,HG,n0,n1⟩:=upU hb5 HXs HN HB HG;clear hb5))
  go_ret
  exact endU HR HB hg
end Go.Proofs.YtlmbiafloiompaaGreatDoor
