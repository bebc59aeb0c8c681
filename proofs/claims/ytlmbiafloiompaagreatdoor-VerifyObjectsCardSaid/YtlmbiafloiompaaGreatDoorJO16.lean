/-
 verify's makes (layer 11): what is known behind an instruction. Conditions: an object that may be,an instruction of it,parts enough.
-/
import Derived.Test.YtlmbiafloiompaaGreatDoorJO15
import Derived.StillTailTactics
set_option linter.unusedVariables false
set_option linter.unusedSimpArgs false
namespace Go.Proofs.YtlmbiafloiompaaGreatDoor
open Go Go.RowKit
set_option maxRecDepth 100000
theorem zh7 (s:VSt) {r:Int} (h:r<16):becV s r=regV s r:=if_pos h
theorem zh2 {s:VSt} (hs:StOk s) (r:Int) (h0:0≤r) (h1:r<32) (w:World) (g:Nat) (hb:Box w g 58 (stA s)) :
  Calls Tryz.prog 131 #[.pointer (some ⟨g,0,none⟩),.int .i64 r] w fun e w'=>e=.returned (.tuple #[])∧Fr (fun j=>j=g) w w'∧Box w' g 58 (stA (becV s r)):=by
 by_cases h:r<16
 ·obtain⟨k,rfl⟩:∃ k:Nat,r=(k:Int):=⟨r.toNat,by omega⟩
  rw [zh7 s h]
  exact become_x hs k (by omega) w g hb
 ·obtain⟨k,rfl⟩:∃ k:Nat,r=(k:Int)+16:=⟨(r - 16).toNat,by omega⟩
  have e:becV s ((k:Int)+16)={ s with y:=s.y.set k 1 }:=by
   unfold becV
   rw [if_neg h,show((k:Int)+16 - 16).toNat=k by omega]
  rw [e]
  exact become_y hs k (by omega) w g hb
def zero16:Array Value:=#[.int .i64 0,.int .i64 0,.int .i64 0,.int .i64 0,.int .i64 0,.int .i64 0,.int .i64 0,.int .i64 0,.int .i64 0,.int .i64 0,.int .i64 0,.int .i64 0,.int .i64 0,.int .i64 0,.int .i64 0,.int .i64 0]
theorem zj21:zero16.all (·.oneCell')=true:=Array.all_eq_true_iff_forall_mem.2 fun v hv=>by
 simp [zero16] at hv
 subst hv
 rfl
theorem zp17:(Tryz.prog.info? 56).map (·.size)=some zero16.size:=by kernel_rfl
theorem put_zero {s:VSt} (hs:StOk s):putL (stA s) 2 zero16.toList=stA { s with y:=yZero }:=by
 obtain⟨x,env,y,left,alt,neck⟩:=s
 obtain⟨y0,y1,y2,y3,y4,y5,y6,y7,y8,y9,y10,y11,y12,y13,y14,y15,rfl⟩:=zm1 y hs.y
 simp [putL,zero16,stA,yZero,List.replicate]
theorem there_y {w:World} {g:Nat} {s:VSt} (h:Box w g 58 (stA s)) (hs:StOk s):w.there g 2 zero16.size:=fun j hj=>by
 have hz:=zh hs
 have hj2:j<16:=hj
 refine⟨?_,h.frozen _⟩
 rw [h.cell,Array.getElem?_eq_getElem (by omega)]
 rfl
theorem zt1 {b g:Nat}:∀ (vs:List Value) (w w':World) (o:Nat),Below b w w'→b≤g→Below b w (w'.setCells g o vs)
 | [],_,_,_,h,_=>h
 | v :: r,w,w',o,h,hg=>zt1 r w _ (o+1) (h.setCell (p:=⟨g,o,none⟩) hg v) hg
theorem genV {S:VSt} (h:Hid (StOk S)):∃ C,Hid (stA S=C)∧Hid (C.size=21)∧Hid (C.all (·.oneCell')=true):=⟨_,hD rfl,hD (zh h.out),hD (zu1 S)⟩
set_option maxHeartbeats 32000000 in
theorem makes_any {o:Ob} {op a b c d:Int} (hi:InsK o (op,a,b,c,d)) {s:VSt} (hs:StW s) (hp:(op=6 ∨ op=7 ∨ op=8→s.left≠0)∧(op=9→a≤s.left)) {w:World} {gw gp:Nat} {va vf vp vc:Value} {P:List VPl} (h:WkAt w gw gp va vf vp vc P) (hv:ObAt w va vf vp vc o) :
  Calls Tryz.prog 98 #[.pointer (some ⟨gw,0,none⟩),.agg #[.int .i64 op,.int .i64 a,.int .i64 b,.int .i64 c,.int .i64 d],.agg (stA s)] w fun e w'=>e=.returned (.agg (stA (makesV o (op,a,b,c,d) s)))∧Below w.heap.size w w':=by
 obtain⟨A1,c1,rfl⟩:=CellsAt.form hv.atoms
 obtain⟨A2,cf,rfl⟩:=CellsAt.form hv.funs
 obtain⟨A3,cp,rfl⟩:=CellsAt.form hv.preds
 obtain⟨A4,c4,rfl⟩:=CellsAt.form hv.code
 have HV:=hD hv
 have HW:=hD h
 have HSs:=hD hs.ok
 have hl0:=hs.l0
 have hl1:=hs.l1
 have hb1:=za w (.cells #[.int .i64 op,.int .i64 a,.int .i64 b,.int .i64 c,.int .i64 d] 65)
 have hin:=Box.new w 65 #[.int .i64 op,.int .i64 a,.int .i64 b,.int .i64 c,.int .i64 d]
 obtain⟨hx1,hx2,hb2⟩:=zn1 (w.alloc (.cells #[.int .i64 op,.int .i64 a,.int .i64 b,.int .i64 c,.int .i64 d] 65)) (stA s) zeroA 58 58
 rw [World.size_alloc] at hx1 hx2 hb2
 have HI:=hD ((hin.alloc (.cells (stA s) 58)).alloc (.cells zeroA 58))
 have HXs:=hD hx1
 have HZs:=hD hx2
 have HB:=hD (hb1.trans (hb2.mono (by omega)))
 clear hb1 hb2 hx1 hx2 hin hv h hs
 have HZE:=hD zE
 have hop:=hi.op
 simp only at hop
 obtain⟨g,hg⟩:∃ g,w.heap.size=g:=⟨_,rfl⟩
 go_enter Tryz.func98,Tryz.ntmps98
 go_upto_region 1 with(fail)
 rw [← HZE.out]
 obtain⟨w1,hw1⟩:∃ w1,((w.alloc (.cells #[.int .i64 op,.int .i64 a,.int .i64 b,.int .i64 c,.int .i64 d] 65)).alloc (.cells (stA s) 58)).alloc (.cells zeroA 58)=w1:=⟨_,rfl⟩
 rw [hw1] at HI HXs HZs HB ⊢
 rw [hg] at HI HXs HZs HB
 have HG:=hD HB.out.size
 rw [hg] at HG
 clear hw1 HZE
 have i1:=HI.out.cell 1
 have i2:=HI.out.cell 2
 have i3:=HI.out.cell 3
 have i4:=HI.out.cell 4
 have HN:=hD (Box.new w1 52 #[.int .i64 a,.int .i64 b,.int .i64 c,.int .i64 d])
 have HB:=hD (HB.out.alloc HG.out (.cells #[.int .i64 a,.int .i64 b,.int .i64 c,.int .i64 d] 52))
 have HI:=hD (HI.out.alloc (.cells #[.int .i64 a,.int .i64 b,.int .i64 c,.int .i64 d] 52))
 have hgl:=HZs.out.lt
 have HXs:=hD (HXs.out.alloc (.cells #[.int .i64 a,.int .i64 b,.int .i64 c,.int .i64 d] 52))
 have HZs:=hD (HZs.out.alloc (.cells #[.int .i64 a,.int .i64 b,.int .i64 c,.int .i64 d] 52))
 have HG:Hid (g≤(w1.alloc (.cells #[.int .i64 a,.int .i64 b,.int .i64 c,.int .i64 d] 52)).heap.size):=hD (by simp;have:=HG.out;omega)
 go_upto_region 2 with(fail)
 obtain⟨W1,hW1⟩:∃ W1,w1.alloc (.cells #[.int .i64 a,.int .i64 b,.int .i64 c,.int .i64 d] 52)=W1:=⟨_,rfl⟩
 obtain⟨gn,hgn⟩:∃ gn,w1.heap.size=gn:=⟨_,rfl⟩
 rw [hW1] at HN HB HI HXs HZs HG ⊢
 rw [hgn] at HN hgl
 clear hW1 i1 i2 i3 i4
 have i0:=HI.out.cell 0
 have n0:=HN.out.cell 0
 have n1:=HN.out.cell 1
 go_upto_region 3 with(fail)
 have hcs:op=0 ∨ op=1 ∨ op=2 ∨ op=3 ∨ op=4 ∨ op=5 ∨ op=6 ∨ op=7 ∨ op=8 ∨ op=9 ∨ op=10 ∨ op=11 ∨ op=12 ∨ op=13 ∨ op=14 ∨ op=15 ∨ op=16 ∨ op=17 ∨ op=18 ∨ op=19 ∨ op=20 ∨ op=21 ∨ op=22 ∨ op=23 ∨ op=24 ∨ op=25 ∨ op=26:=by omega
 clear hop
 rcases hcs with rfl | rfl | rfl | rfl | rfl | rfl | rfl | rfl | rfl | rfl | rfl | rfl | rfl | rfl | rfl | rfl | rfl | rfl | rfl | rfl | rfl | rfl | rfl | rfl | rfl | rfl | rfl
 rotate_left 1
 focus
  have HB1:=hD (fun W hW=>zh2 HSs.out a (hi.rg (by simp)).1 (hi.rg (by simp)).2 W (g+1) hW)
  go_upto_region 40 with(go_at_call 131;refine(HB1.out _ HXs.out).mono ?_;rintro e1 w5 ⟨rfl,hf5,hx5⟩;have HXs:=hD hx5;have HZs:=hD (HZs.out.fr hf5 (by omega));have HN:=hD (HN.out.fr hf5 (by omega));have HB:=hD (HB.out.trans (hf5.below HG.out (fun k hk=>by subst hk;omega)));have HG:=hD (Nat.le_trans HG.out hf5.size);have n0:=HN.out.cell 0;have n1:=HN.out.cell 1;clear hf5 hx5)
  have HSs:Hid (StOk (becV s a)):=hD (HSs.out.bec (hi.rg (by simp)).1 (hi.rg (by simp)).2)
 rotate_left 3
 focus
  obtain⟨hf0,hf1⟩:=hi.fa (by simp)
  simp only at hf0 hf1
  obtain⟨ak,rfl⟩:∃ ak:Nat,a=(ak:Int):=⟨a.toNat,by omega⟩
  have hak:ak<o.funs.length:=by omega
  obtain⟨bp,of,rfl,hbp,_,hc5⟩:=zy1 HV.out.funs ak hak
  have har2:arityF o (ak:Int)=o.funs[ak].2:=by
   unfold arityF
   rw [Int.toNat_natCast,List.getD_eq_getElem?_getD,List.getElem?_eq_getElem hak]
   rfl
  have i2:(ak:Int)<(o.funs.length:Int):=by omega
  have i3:(0:Int)≤(ak:Int):=by omega
  have HBW:Hid (Below w.heap.size w _):=hD (by first | exact HB.out | (rw [hg];exact HB.out))
  have c5:=(HBW.out.cell (p:=⟨bp,of+ak * 2+1,none⟩) hbp).trans hc5
  have q1:=(HBW.out.cell (p:=⟨gw,1,none⟩) HW.out.wk.lt).trans (HW.out.wk.cell 1)
  go_upto_region 6 with(fail)
  go_still_tail 12,(by kernel_rfl)
  change wpList _ _ _ _ _ W1.drew
  have HXs:=hD HXs.out.drew
  have HZs:=hD HZs.out.drew
  have HB:=hD (bel_dn HB.out 1)
  change Hid (Below g w W1.drew) at HB
  generalize W1.drew=w8 at HXs HZs HB ⊢
  have HX0:=HXs
  have x:=HXs.out.cell (18)
  rw [zh1 HSs.out] at x
  have z:=HXs.out.frozen (18)
  have HXs:=hD (HXs.out.set_ (18) (.int .i64 o.funs[ak].2))
  rw [← zc1 HSs.out o.funs[ak].2] at HXs
  have HZs:=hD (HZs.out.far (p:=⟨g+1,18,none⟩) (by simp) (.int .i64 o.funs[ak].2))
  have HB:=hD (HB.out.setCell (p:=⟨g+1,18,none⟩) (Nat.le_succ g) (.int .i64 o.funs[ak].2))
  have HSs:Hid (StOk { s with left:=o.funs[ak].2 }):=hD (⟨HSs.out.y,HSs.out.x⟩)
  have HAR:=hD har2
  clear har2
 rotate_left 1
 focus
  go_upto_region 8 with(fail)
  have HX0:=HXs
  have x:=HXs.out.cell (18)
  rw [zh1 HSs.out] at x
  have z:=HXs.out.frozen (18)
  have HXs:=hD (HXs.out.set_ (18) (.int .i64 2))
  rw [← zc1 HSs.out 2] at HXs
  have HZs:=hD (HZs.out.far (p:=⟨g+1,18,none⟩) (by simp) (.int .i64 2))
  have HB:=hD (HB.out.setCell (p:=⟨g+1,18,none⟩) (Nat.le_succ g) (.int .i64 2))
  have HSs:Hid (StOk { s with left:=2 }):=hD (⟨HSs.out.y,HSs.out.x⟩)
 rotate_left 1
 focus
  have hl:=hp.1 (by simp)
  have hwr:IntKind.i64.wrap (s.left - 1)=s.left - 1:=IntWalk.i64_in _ (by omega)
  have HB1:=hD (fun W hW=>zh2 HSs.out a (hi.rg (by simp)).1 (hi.rg (by simp)).2 W (g+1) hW)
  go_upto_region 11 with(go_at_call 131;refine(HB1.out _ HXs.out).mono ?_;rintro e1 w5 ⟨rfl,hf5,hx5⟩;have HXs:=hD hx5;have HZs:=hD (HZs.out.fr hf5 (by omega));have HN:=hD (HN.out.fr hf5 (by omega));have HB:=hD (HB.out.trans (hf5.below HG.out (fun k hk=>by subst hk;omega)));have HG:=hD (Nat.le_trans HG.out hf5.size);have n0:=HN.out.cell 0;have n1:=HN.out.cell 1;clear hf5 hx5)
  have HSs:Hid (StOk (becV s a)):=hD (HSs.out.bec (hi.rg (by simp)).1 (hi.rg (by simp)).2)
  have HX0:=HXs
  have x:=HXs.out.cell (18)
  rw [zh1 HSs.out,zc5] at x
  have z:=HXs.out.frozen (18)
  have HXs:=hD (HXs.out.set_ (18) (.int .i64 (s.left - 1)))
  rw [← zc1 HSs.out (s.left - 1)] at HXs
  have HZs:=hD (HZs.out.far (p:=⟨g+1,18,none⟩) (by simp) (.int .i64 (s.left - 1)))
  have HB:=hD (HB.out.setCell (p:=⟨g+1,18,none⟩) (Nat.le_succ g) (.int .i64 (s.left - 1)))
  have HSs:Hid (StOk { (becV s a) with left:=s.left - 1 }):=hD (⟨HSs.out.y,HSs.out.x⟩)
 rotate_left 1
 focus
  have hl:=hp.1 (by simp)
  have hwr:IntKind.i64.wrap (s.left - 1)=s.left - 1:=IntWalk.i64_in _ (by omega)
  go_upto_region 14 with(fail)
  have HX0:=HXs
  have x:=HXs.out.cell (18)
  rw [zh1 HSs.out] at x
  have z:=HXs.out.frozen (18)
  have HXs:=hD (HXs.out.set_ (18) (.int .i64 (s.left - 1)))
  rw [← zc1 HSs.out (s.left - 1)] at HXs
  have HZs:=hD (HZs.out.far (p:=⟨g+1,18,none⟩) (by simp) (.int .i64 (s.left - 1)))
  have HB:=hD (HB.out.setCell (p:=⟨g+1,18,none⟩) (Nat.le_succ g) (.int .i64 (s.left - 1)))
  have HSs:Hid (StOk { s with left:=s.left - 1 }):=hD (⟨HSs.out.y,HSs.out.x⟩)
 rotate_left 1
 focus
  have hl:=hp.1 (by simp)
  have hwr:IntKind.i64.wrap (s.left - 1)=s.left - 1:=IntWalk.i64_in _ (by omega)
  go_upto_region 14 with(fail)
  have HX0:=HXs
  have x:=HXs.out.cell (18)
  rw [zh1 HSs.out] at x
  have z:=HXs.out.frozen (18)
  have HXs:=hD (HXs.out.set_ (18) (.int .i64 (s.left - 1)))
  rw [← zc1 HSs.out (s.left - 1)] at HXs
  have HZs:=hD (HZs.out.far (p:=⟨g+1,18,none⟩) (by simp) (.int .i64 (s.left - 1)))
  have HB:=hD (HB.out.setCell (p:=⟨g+1,18,none⟩) (Nat.le_succ g) (.int .i64 (s.left - 1)))
  have HSs:Hid (StOk { s with left:=s.left - 1 }):=hD (⟨HSs.out.y,HSs.out.x⟩)
 rotate_left 1
 focus
  have hl:=hp.2 (by simp)
  have hva:=hi.va (by simp)
  simp only at hl hva
  have hwr:IntKind.i64.wrap (s.left - a)=s.left - a:=IntWalk.i64_in _ (by omega)
  go_upto_region 16 with(fail)
  have HX0:=HXs
  have x:=HXs.out.cell (18)
  rw [zh1 HSs.out] at x
  have z:=HXs.out.frozen (18)
  have HXs:=hD (HXs.out.set_ (18) (.int .i64 (s.left - a)))
  rw [← zc1 HSs.out (s.left - a)] at HXs
  have HZs:=hD (HZs.out.far (p:=⟨g+1,18,none⟩) (by simp) (.int .i64 (s.left - a)))
  have HB:=hD (HB.out.setCell (p:=⟨g+1,18,none⟩) (Nat.le_succ g) (.int .i64 (s.left - a)))
  have HSs:Hid (StOk { s with left:=s.left - a }):=hD (⟨HSs.out.y,HSs.out.x⟩)
 rotate_left 1
 focus
  have HB1:=hD (fun W hW=>zh2 HSs.out a (hi.rg (by simp)).1 (hi.rg (by simp)).2 W (g+1) hW)
  go_upto_region 19 with(go_at_call 131;refine(HB1.out _ HXs.out).mono ?_;rintro e1 w5 ⟨rfl,hf5,hx5⟩;have HXs:=hD hx5;have HZs:=hD (HZs.out.fr hf5 (by omega));have HN:=hD (HN.out.fr hf5 (by omega));have HB:=hD (HB.out.trans (hf5.below HG.out (fun k hk=>by subst hk;omega)));have HG:=hD (Nat.le_trans HG.out hf5.size);have n0:=HN.out.cell 0;have n1:=HN.out.cell 1;clear hf5 hx5)
  have HSs:Hid (StOk (becV s a)):=hD (HSs.out.bec (hi.rg (by simp)).1 (hi.rg (by simp)).2)
  have HB1:=hD (fun W hW=>zh2 HSs.out b (hi.xb (by simp)).1 (by have h:=(hi.xb (by simp)).2;simp only at h;omega) W (g+1) hW)
  go_upto_region 40 with(go_at_call 131;refine(HB1.out _ HXs.out).mono ?_;rintro e1 w5 ⟨rfl,hf5,hx5⟩;have HXs:=hD hx5;have HZs:=hD (HZs.out.fr hf5 (by omega));have HN:=hD (HN.out.fr hf5 (by omega));have HB:=hD (HB.out.trans (hf5.below HG.out (fun k hk=>by subst hk;omega)));have HG:=hD (Nat.le_trans HG.out hf5.size);have n0:=HN.out.cell 0;have n1:=HN.out.cell 1;clear hf5 hx5)
  have HSs:Hid (StOk (regV (becV s a) b)):=hD (HSs.out.reg (hi.xb (by simp)).1 (hi.xb (by simp)).2)
  rw [zh7 (becV s a) (show b<16 from(hi.xb (by simp)).2)] at HXs
 rotate_left 1
 focus
  have HB1:=hD (fun W hW=>zh2 HSs.out b (hi.xb (by simp)).1 (by have h:=(hi.xb (by simp)).2;simp only at h;omega) W (g+1) hW)
  go_upto_region 40 with(go_at_call 131;refine(HB1.out _ HXs.out).mono ?_;rintro e1 w5 ⟨rfl,hf5,hx5⟩;have HXs:=hD hx5;have HZs:=hD (HZs.out.fr hf5 (by omega));have HN:=hD (HN.out.fr hf5 (by omega));have HB:=hD (HB.out.trans (hf5.below HG.out (fun k hk=>by subst hk;omega)));have HG:=hD (Nat.le_trans HG.out hf5.size);have n0:=HN.out.cell 0;have n1:=HN.out.cell 1;clear hf5 hx5)
  have HSs:Hid (StOk (regV s b)):=hD (HSs.out.reg (hi.xb (by simp)).1 (hi.xb (by simp)).2)
  rw [zh7 s (show b<16 from(hi.xb (by simp)).2)] at HXs
 rotate_left 1
 focus
  have HB1:=hD (fun W hW=>zh2 HSs.out b (hi.xb (by simp)).1 (by have h:=(hi.xb (by simp)).2;simp only at h;omega) W (g+1) hW)
  go_upto_region 40 with(go_at_call 131;refine(HB1.out _ HXs.out).mono ?_;rintro e1 w5 ⟨rfl,hf5,hx5⟩;have HXs:=hD hx5;have HZs:=hD (HZs.out.fr hf5 (by omega));have HN:=hD (HN.out.fr hf5 (by omega));have HB:=hD (HB.out.trans (hf5.below HG.out (fun k hk=>by subst hk;omega)));have HG:=hD (Nat.le_trans HG.out hf5.size);have n0:=HN.out.cell 0;have n1:=HN.out.cell 1;clear hf5 hx5)
  have HSs:Hid (StOk (regV s b)):=hD (HSs.out.reg (hi.xb (by simp)).1 (hi.xb (by simp)).2)
  rw [zh7 s (show b<16 from(hi.xb (by simp)).2)] at HXs
 rotate_left 1
 focus
  obtain⟨hf0,hf1⟩:=hi.fa (by simp)
  simp only at hf0 hf1
  obtain⟨ak,rfl⟩:∃ ak:Nat,a=(ak:Int):=⟨a.toNat,by omega⟩
  have hak:ak<o.funs.length:=by omega
  obtain⟨bp,of,rfl,hbp,_,hc5⟩:=zy1 HV.out.funs ak hak
  have har2:arityF o (ak:Int)=o.funs[ak].2:=by
   unfold arityF
   rw [Int.toNat_natCast,List.getD_eq_getElem?_getD,List.getElem?_eq_getElem hak]
   rfl
  have i2:(ak:Int)<(o.funs.length:Int):=by omega
  have i3:(0:Int)≤(ak:Int):=by omega
  have HB1:=hD (fun W hW=>zh2 HSs.out b (hi.xb (by simp)).1 (by have h:=(hi.xb (by simp)).2;simp only at h;omega) W (g+1) hW)
  go_upto_region 25 with(go_at_call 131;refine(HB1.out _ HXs.out).mono ?_;rintro e1 w5 ⟨rfl,hf5,hx5⟩;have HXs:=hD hx5;have HZs:=hD (HZs.out.fr hf5 (by omega));have HN:=hD (HN.out.fr hf5 (by omega));have HB:=hD (HB.out.trans (hf5.below HG.out (fun k hk=>by subst hk;omega)));have HG:=hD (Nat.le_trans HG.out hf5.size);have n0:=HN.out.cell 0;have n1:=HN.out.cell 1;clear hf5 hx5)
  have HSs:Hid (StOk (regV s b)):=hD (HSs.out.reg (hi.xb (by simp)).1 (hi.xb (by simp)).2)
  rw [zh7 s (show b<16 from(hi.xb (by simp)).2)] at HXs
  have HBW:Hid (Below w.heap.size w _):=hD (by first | exact HB.out | (rw [hg];exact HB.out))
  have c5:=(HBW.out.cell (p:=⟨bp,of+ak * 2+1,none⟩) hbp).trans hc5
  have q1:=(HBW.out.cell (p:=⟨gw,1,none⟩) HW.out.wk.lt).trans (HW.out.wk.cell 1)
  go_still_tail 12,(by kernel_rfl)
  change wpList _ _ _ _ _ w5.drew
  have HXs:=hD HXs.out.drew
  have HZs:=hD HZs.out.drew
  have HB:=hD (bel_dn HB.out 1)
  change Hid (Below g w w5.drew) at HB
  generalize w5.drew=w8 at HXs HZs HB ⊢
  have HX0:=HXs
  have x:=HXs.out.cell (18)
  rw [zh1 HSs.out] at x
  have z:=HXs.out.frozen (18)
  have HXs:=hD (HXs.out.set_ (18) (.int .i64 o.funs[ak].2))
  rw [← zc1 HSs.out o.funs[ak].2] at HXs
  have HZs:=hD (HZs.out.far (p:=⟨g+1,18,none⟩) (by simp) (.int .i64 o.funs[ak].2))
  have HB:=hD (HB.out.setCell (p:=⟨g+1,18,none⟩) (Nat.le_succ g) (.int .i64 o.funs[ak].2))
  have HSs:Hid (StOk { (regV s b) with left:=o.funs[ak].2 }):=hD (⟨HSs.out.y,HSs.out.x⟩)
  have HAR:=hD har2
  clear har2
 rotate_left 1
 focus
  have HB1:=hD (fun W hW=>zh2 HSs.out a (hi.xa (by simp)).1 (by have h:=(hi.xa (by simp)).2;simp only at h;omega) W (g+1) hW)
  go_upto_region 28 with(go_at_call 131;refine(HB1.out _ HXs.out).mono ?_;rintro e1 w5 ⟨rfl,hf5,hx5⟩;have HXs:=hD hx5;have HZs:=hD (HZs.out.fr hf5 (by omega));have HN:=hD (HN.out.fr hf5 (by omega));have HB:=hD (HB.out.trans (hf5.below HG.out (fun k hk=>by subst hk;omega)));have HG:=hD (Nat.le_trans HG.out hf5.size);have n0:=HN.out.cell 0;have n1:=HN.out.cell 1;clear hf5 hx5)
  have HSs:Hid (StOk (regV s a)):=hD (HSs.out.reg (hi.xa (by simp)).1 (hi.xa (by simp)).2)
  rw [zh7 s (show a<16 from(hi.xa (by simp)).2)] at HXs
  have HX0:=HXs
  have x:=HXs.out.cell (18)
  rw [zh1 HSs.out] at x
  have z:=HXs.out.frozen (18)
  have HXs:=hD (HXs.out.set_ (18) (.int .i64 2))
  rw [← zc1 HSs.out 2] at HXs
  have HZs:=hD (HZs.out.far (p:=⟨g+1,18,none⟩) (by simp) (.int .i64 2))
  have HB:=hD (HB.out.setCell (p:=⟨g+1,18,none⟩) (Nat.le_succ g) (.int .i64 2))
  have HSs:Hid (StOk { regV s a with left:=2 }):=hD (⟨HSs.out.y,HSs.out.x⟩)
 rotate_left 1
 focus
  go_upto_region 30 with(fail)
  have HX0:=HXs
  have x:=HXs.out.cell (1)
  rw [zs2 s] at x
  have z:=HXs.out.frozen (1)
  have HXs:=hD (HXs.out.set_ (1) (.int .i64 a))
  rw [← zn5 s a] at HXs
  have HZs:=hD (HZs.out.far (p:=⟨g+1,1,none⟩) (by simp) (.int .i64 a))
  have HB:=hD (HB.out.setCell (p:=⟨g+1,1,none⟩) (Nat.le_succ g) (.int .i64 a))
  have HSs:Hid (StOk { s with env:=a }):=hD (⟨HSs.out.y,HSs.out.x⟩)
 rotate_left 1
 focus
  obtain⟨Z0,hZ0⟩:∃ Z0,zero16=Z0:=⟨_,rfl⟩
  have HZ0E:Hid (Z0=#[.int .i64 0,.int .i64 0,.int .i64 0,.int .i64 0,.int .i64 0,.int .i64 0,.int .i64 0,.int .i64 0,.int .i64 0,.int .i64 0,.int .i64 0,.int .i64 0,.int .i64 0,.int .i64 0,.int .i64 0,.int .i64 0]):=hD hZ0.symm
  have HZ0I:Hid ((Tryz.prog.info? 56).map (·.size)=some Z0.size):=hD (by rw [← hZ0];exact zp17)
  have HZ01:Hid (Z0.all (·.oneCell')=true):=hD (by rw [← hZ0];exact zj21)
  have HPZ:Hid (putL (stA { s with env:=-1 }) 2 Z0.toList=stA { { s with env:=-1 } with y:=yZero }):=hD (by rw [← hZ0];exact put_zero (s:={ s with env:=-1 }) ⟨HSs.out.y,HSs.out.x⟩)
  have HTH:Hid (∀ W:World,Box W (g+1) 58 (stA { s with env:=-1 })→W.there (g+1) 2 Z0.size):=hD (fun W hW=>by rw [← hZ0];exact there_y hW ⟨HSs.out.y,HSs.out.x⟩)
  clear hZ0
  go_upto_region 32 with(fail)
  have HX0:=HXs
  have x:=HXs.out.cell (1)
  rw [zs2 s] at x
  have z:=HXs.out.frozen (1)
  have HXs:=hD (HXs.out.set_ (1) (.int .i64 (-1)))
  rw [← zn5 s (-1)] at HXs
  have HZs:=hD (HZs.out.far (p:=⟨g+1,1,none⟩) (by simp) (.int .i64 (-1)))
  have HB:=hD (HB.out.setCell (p:=⟨g+1,1,none⟩) (Nat.le_succ g) (.int .i64 (-1)))
  have HSs:Hid (StOk { s with env:=-1 }):=hD (⟨HSs.out.y,HSs.out.x⟩)
  have HT:=hD (HTH.out _ HXs.out)
  have HXs:=hD (HXs.out.setCells Z0.toList _ _ 2)
  rw [HPZ.out] at HXs
  have HZs:=hD (Box.setCells_far (k:=g+1) (by omega) Z0.toList _ _ 2 HZs.out)
  have HB:=hD (zt1 Z0.toList _ _ 2 HB.out (Nat.le_succ g))
  have HSs:Hid (StOk { { s with env:=-1 } with y:=yZero }):=hD ⟨rfl,HSs.out.x⟩
  go_upto_region 40 with((refine wpList_store_mid rfl 56 (.tmp 104) (.tmp 102) rfl (g+1) 2 Z0 rfl (by rw [HZ0E.out];rfl) HT.out HZ0I.out HZ01.out ?_))
  generalize (W1.setCell ⟨g+1,1,none⟩ (.int .i64 (-1))).setCells (g+1) 2 Z0.toList=w9 at HXs HZs HB ⊢
 rotate_left 1
 focus
  go_upto_region 34 with(fail)
  have HX0:=HXs
  have x:=HXs.out.cell (0)
  rw [stA_x s] at x
  have z:=HXs.out.frozen (0)
  have HXs:=hD (HXs.out.set_ (0) (.int .u32 0))
  rw [← (show stA { s with x:=0 }=(stA s).setIfInBounds 0 (.int .u32 0) from rfl)] at HXs
  have HZs:=hD (HZs.out.far (p:=⟨g+1,0,none⟩) (by simp) (.int .u32 0))
  have HB:=hD (HB.out.setCell (p:=⟨g+1,0,none⟩) (Nat.le_succ g) (.int .u32 0))
  have HSs:Hid (StOk { s with x:=0 }):=hD (⟨HSs.out.y,by show(0:Nat)<2 ^ 16;decide⟩)
  have HX0:=HXs
  have x9:=HXs.out.cell (20)
  rw [zy2 HSs.out] at x9
  have z9:=HXs.out.frozen (20)
  have HXs:=hD (HXs.out.set_ (20) (.bool false))
  rw [← zo3 HSs.out false] at HXs
  have HZs:=hD (HZs.out.far (p:=⟨g+1,20,none⟩) (by simp) (.bool false))
  have HB:=hD (HB.out.setCell (p:=⟨g+1,20,none⟩) (Nat.le_succ g) (.bool false))
  have HSs:Hid (StOk { { s with x:=0 } with neck:=false }):=hD (⟨HSs.out.y,HSs.out.x⟩)
 rotate_left 4
 focus
  go_upto_region 37 with(fail)
  have HX0:=HXs
  have x:=HXs.out.cell (19)
  rw [ze3 HSs.out] at x
  have z:=HXs.out.frozen (19)
  have HXs:=hD (HXs.out.set_ (19) (.bool false))
  rw [← zm5 HSs.out false] at HXs
  have HZs:=hD (HZs.out.far (p:=⟨g+1,19,none⟩) (by simp) (.bool false))
  have HB:=hD (HB.out.setCell (p:=⟨g+1,19,none⟩) (Nat.le_succ g) (.bool false))
  have HSs:Hid (StOk { s with alt:=false }):=hD (⟨HSs.out.y,HSs.out.x⟩)
 rotate_left 1
 focus
  go_upto_region 37 with(fail)
  have HX0:=HXs
  have x:=HXs.out.cell (19)
  rw [ze3 HSs.out] at x
  have z:=HXs.out.frozen (19)
  have HXs:=hD (HXs.out.set_ (19) (.bool false))
  rw [← zm5 HSs.out false] at HXs
  have HZs:=hD (HZs.out.far (p:=⟨g+1,19,none⟩) (by simp) (.bool false))
  have HB:=hD (HB.out.setCell (p:=⟨g+1,19,none⟩) (Nat.le_succ g) (.bool false))
  have HSs:Hid (StOk { s with alt:=false }):=hD (⟨HSs.out.y,HSs.out.x⟩)
 rotate_left 2
 focus
  obtain⟨hy0,hy1⟩:=hi.ya (by simp)
  simp only at hy0 hy1
  obtain⟨ak,rfl⟩:∃ ak:Nat,a=(ak:Int):=⟨a.toNat,by omega⟩
  have hak:ak<16:=by omega
  go_upto_region 39 with(fail)
  have HX0:=HXs
  have x:=HXs.out.cell (2+ak)
  rw [stA_y HSs.out ak hak] at x
  have z:=HXs.out.frozen (2+ak)
  have HXs:=hD (HXs.out.set_ (2+ak) (.int .i64 2))
  rw [← za9 HSs.out ak hak 2] at HXs
  have HZs:=hD (HZs.out.far (p:=⟨g+1,2+ak,none⟩) (by simp) (.int .i64 2))
  have HB:=hD (HB.out.setCell (p:=⟨g+1,2+ak,none⟩) (Nat.le_succ g) (.int .i64 2))
  have HSs:Hid (StOk { s with y:=s.y.set ak 2 }):=hD (⟨by show(s.y.set ak 2).length=16;rw [List.length_set];exact HSs.out.y,HSs.out.x⟩)
 all_goals
  obtain⟨C,HC,HSZ,H1⟩:=genV HSs
  rw [HC.out] at HXs
  go_wp2_with (first | (refine zf rfl (.tmp 5) rfl (g+1) rfl C HXs.out HSZ.out ?_) | (refine zj1 rfl (.tmp 6) (.tmp 119) rfl (g+1+1) C zeroA rfl rfl HZs.out HSZ.out rfl H1.out ?_))
  exact bodyPost_ret (zj3 rfl _ _ (g+1+1) C rfl (HZs.out.row C) HSZ.out) rfl ⟨by first | (rw [← HC.out];rfl) | (rw [← HC.out,← HAR.out];rfl),by first | exact zx HB.out (by omega) C | (rw [hg];exact zx HB.out (by omega) C)⟩
end Go.Proofs.YtlmbiafloiompaaGreatDoor
