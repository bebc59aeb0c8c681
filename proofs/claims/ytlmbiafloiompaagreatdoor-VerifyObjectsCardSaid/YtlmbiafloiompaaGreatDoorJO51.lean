/-
 The document's needs (layer 11),the walk. Conditions: an object that may be;what follows a place lies behind it.
-/
import Derived.Test.YtlmbiafloiompaaGreatDoorJO19
import Derived.Test.YtlmbiafloiompaaGreatDoorJO12
set_option linter.unusedVariables false
set_option linter.unusedSimpArgs false
namespace Go.Proofs.YtlmbiafloiompaaGreatDoor
open Go Go.RowKit
set_option maxRecDepth 100000
set_option maxHeartbeats 64000000 in
theorem zu20 {o:Ob} (ho:ObK o) (hgo:∀ n,n<o.code.length→∀ t ∈ followV n (o.code.getD n (0,0,0,0,0)),(n:Int)<t∧t<(o.code.length:Int)) {va vf vp vc:Value} {w:World} (hv:ObAt w va vf vp vc o) :
  Calls Tryz.prog 35 #[.agg #[va,vf,vp,vc]] w fun e w'=>∃ v,e=.returned v∧CellsAt w' v o.code.length ((needsV o o.code.length).flatMap ndC)∧Below w.heap.size w w':=by
 obtain⟨A1,c1,rfl⟩:=CellsAt.form hv.atoms
 obtain⟨A2,cf,rfl⟩:=CellsAt.form hv.funs
 obtain⟨A3,cp,rfl⟩:=CellsAt.form hv.preds
 obtain⟨A4,cc,rfl⟩:=CellsAt.form hv.code
 have HV:=hD hv
 have HOB:=hD ho
 have HGO:=hD hgo
 have hlc:=ho.lc
 clear hv ho hgo
 obtain⟨g,hg⟩:∃ g,w.heap.size=g:=⟨_,rfl⟩
 have HB:=hD (za w (.cells #[.slice A1 o.atoms.length c1,.slice A2 o.funs.length cf,.slice A3 o.preds.length cp,.slice A4 o.code.length cc] 27))
 have HX:=hD (Box.new w 27 #[.slice A1 o.atoms.length c1,.slice A2 o.funs.length cf,.slice A3 o.preds.length cp,.slice A4 o.code.length cc])
 go_enter Tryz.func35,Tryz.ntmps35
 go_upto_region 1 with(fail)
 obtain⟨w1,hw1⟩:∃ w1,w.alloc (.cells #[.slice A1 o.atoms.length c1,.slice A2 o.funs.length cf,.slice A3 o.preds.length cp,.slice A4 o.code.length cc] 27)=w1:=⟨_,rfl⟩
 rw [hw1] at HB HX ⊢
 rw [hg] at HX
 try rw [hg]
 clear hw1
 have hmk:=zd11 o.code.length hlc w1
 have HR:=hD (Box.new w1 106 ((List.replicate o.code.length ndZero).flatMap ndC).toArray)
 have HX2:=hD (HX.out.alloc (.cells ((List.replicate o.code.length ndZero).flatMap ndC).toArray 106))
 have HB2:=hD (HB.out.alloc HB.out.size (.cells ((List.replicate o.code.length ndZero).flatMap ndC).toArray 106))
 have x3:=HX.out.cell 3
 have hgs:=HB.out.size
 obtain⟨gl,hgle⟩:∃ gl,w1.heap.size=gl:=⟨_,rfl⟩
 have R0:Hid (rowN o 0=List.replicate o.code.length ndZero):=hD (by unfold rowN needsV;rw [List.append_nil,Nat.sub_zero])
 rw [← R0.out] at HR HX2 HB2 hmk
 rw [hgle] at HR hgs hmk
 clear R0
 go_upto_region 3 with(fail)
 obtain⟨w2,hw2⟩:∃ w2,w1.alloc (.cells ((rowN o 0).flatMap ndC).toArray 106)=w2:=⟨_,rfl⟩
 rw [hw2] at HR HX2 HB2 ⊢
 clear hw2 hmk x3 HX HB
 have hwr0:IntKind.i64.wrap ((o.code.length:Int) - 1)=(o.code.length:Int) - 1:=IntWalk.i64_in _ (by omega)
 go_wp2
 have B0:Hid (∀ b ∈ rowN o 0,NdB ((0:Nat):Int) b):=hD (fun b hb=>by
  unfold rowN needsV at hb
  rw [List.append_nil] at hb
  rw [List.eq_of_mem_replicate hb]
  exact NdB.zero (Int.le_refl _))
 go_loopw [5,6,7,8] (fun nv _ _ _ wr=>∃ k:Nat,k≤o.code.length∧nv=.int .i64 ((o.code.length:Int) - k - 1)∧Hid (Box wr gl 106 ((rowN o k).flatMap ndC).toArray)∧Hid (Box wr g 27 #[.slice A1 o.atoms.length c1,.slice A2 o.funs.length cf,.slice A3 o.preds.length cp,.slice A4 o.code.length cc])∧Hid (Below w.heap.size w wr)∧Hid (∀ b ∈ rowN o k,NdB (k:Int) b)) (fun nv _ _ _ _=>(intOf nv+1).toNat)
 case atStart=>exact⟨0,by omega,by go_num,HR,HX2,HB2,B0⟩
 obtain⟨k,hk,hnv,HRk,HXk,HBk,HNB⟩:=hrel
 clear HR HX2 HB2 B0
 by_cases hlt:k<o.code.length
 case neg=>
  obtain rfl:k=o.code.length:=by omega
  rw [show(o.code.length:Int) - (o.code.length:Int) - 1 = -1 by omega] at hnv
  subst hnv
  have RE:rowN o o.code.length=needsV o o.code.length:=by unfold rowN;rw [Nat.sub_self];rfl
  rw [RE] at HRk
  go_wp2
  go_ret
  refine⟨_,rfl,.inr ⟨gl,0,_,rfl,HRk.out.lt,fun j u hj=>?_⟩,HBk.out⟩
  rw [Nat.zero_add,HRk.out.cell,List.getElem?_toArray]
  exact hj
 case pos=>
  obtain⟨m,hm⟩:∃ m,o.code.length - (k+1)=m:=⟨_,rfl⟩
  rw [show(o.code.length:Int) - k - 1=(m:Int) by omega] at hnv
  subst hnv
  have hmc:m<o.code.length:=by omega
  obtain⟨bc,of,rfl,hbc,d0,d1,d2,d3,d4⟩:=zm3 HV.out.code m hmc
  have e0:=(HBk.out.cell (p:=⟨bc,of+m * 5,none⟩) hbc).trans d0
  have e1:=(HBk.out.cell (p:=⟨bc,of+m * 5+1,none⟩) hbc).trans d1
  have e2:=(HBk.out.cell (p:=⟨bc,of+m * 5+2,none⟩) hbc).trans d2
  have e3:=(HBk.out.cell (p:=⟨bc,of+m * 5+3,none⟩) hbc).trans d3
  have e4:=(HBk.out.cell (p:=⟨bc,of+m * 5+4,none⟩) hbc).trans d4
  have hik:=HOB.out.ins o.code[m] (List.getElem_mem hmc)
  have hgd:o.code.getD m (0,0,0,0,0)=o.code[m]:=by rw [List.getD_eq_getElem?_getD,List.getElem?_eq_getElem hmc];rfl
  have hgo:=HGO.out m hmc
  have hst:=zj15 HOB.out k (by omega) (by rw [hm];exact fun t ht=>(hgo t ht).1)
  have hhb:=head_b HOB.out k hlt HNB.out
  have hhead:ndOwn o o.code[m] (mostV (fun t=>(rowN o k).getD t.toNat ndZero) (followV m o.code[m]))=headN o k:=by rw [← zw18];unfold headN;rw [hm,hgd]
  rw [hm] at hst hhb
  rw [hgd] at hgo hhb
  clear d0 d1 d2 d3 d4 hgd
  obtain⟨ix,hix⟩:∃ ix,o.code[m]=ix:=⟨_,rfl⟩
  rw [hix] at e0 e1 e2 e3 e4 hik hgo hhead hhb
  clear hix
  obtain⟨op,a,b,c,d⟩:=ix
  simp only at e0 e1 e2 e3 e4
  have hRl:=zv18 o k hk
  obtain⟨bn,hbn⟩:∃ bn,headN o k=bn:=⟨_,rfl⟩
  rw [hbn] at hst hhb hhead
  have HPUT:Hid (putL ((rowN o k).flatMap ndC).toArray (m * 3) (ndA bn).toList=((rowN o (k+1)).flatMap ndC).toArray):=hD (by rw [nd_put _ m (by omega) bn,← hst])
  have HNB2:Hid (∀ b ∈ rowN o (k+1),NdB ((k+1:Nat):Int) b):=hD (fun b hb=>by
   rw [hst] at hb
   rcases List.mem_or_eq_of_mem_set hb with hb | rfl
   ·exact(HNB.out b hb).mono (by omega)
   ·have:=hhb.2
    rw [show((k+1:Nat):Int)=(k:Int)+1 by omega]
    exact this)
  have hFOLL:op≠26→onV op=true→op≠17→m+1<o.code.length∧mostV (fun t=>(rowN o k).getD t.toNat ndZero) (followV m (op,a,b,c,d))=(rowN o k).getD (m+1) ndZero:=fun h26 hon h17=>by
   have hf:followV m (op,a,b,c,d)=[(m:Int)+1]:=by
    unfold followV
    rw [if_neg h26,if_neg (by rintro(x | x);exact h17 x;simp only at x;rw [hon] at x;cases x)]
   have h2:=hgo ((m:Int)+1) (by rw [hf];simp)
   refine⟨by omega,?_⟩
   rw [hf]
   unfold mostV
   simp only [List.foldl_cons,List.foldl_nil]
   rw [show((m:Int)+1).toNat=m+1 by omega,zu11]
   rw [List.getD_eq_getElem?_getD,List.getElem?_eq_getElem (by rw [hRl];omega)]
   exact(HNB.out _ (List.getElem_mem _)).ok
  have hNOT:op≠26→(op=17 ∨ onV op=false)→mostV (fun t=>(rowN o k).getD t.toNat ndZero) (followV m (op,a,b,c,d))=ndZero:=fun h26 h=>by
   have hf:followV m (op,a,b,c,d)=[]:=by
    unfold followV
    rw [if_neg h26,if_pos h]
   rw [hf]
   rfl
  have hLABS:op=26→mostV (fun t=>(rowN o k).getD t.toNat ndZero) (followV m (op,a,b,c,d))=(labK (op,a,b,c,d) 4).foldl (fun b t=>ndMax b ((rowN o k).getD t.toNat ndZero)) ndZero:=fun h=>by
   subst h
   rfl
  have hLG:op=26→∀ t ∈ labK (op,a,b,c,d) 4,0≤t∧t<(o.code.length:Int):=fun h t ht=>by
   subst h
   have:=hgo t (by exact ht)
   omega
  have HFOLL:=hD hFOLL
  have HNOT:=hD hNOT
  have HLABS:=hD hLABS
  have HLG:=hD hLG
  obtain⟨mv,hmv⟩:∃ mv,mostV (fun t=>(rowN o k).getD t.toNat ndZero) (followV m (op,a,b,c,d))=mv:=⟨_,rfl⟩
  rw [hmv] at hhead hhb HFOLL HNOT HLABS
  have HBN:=hD hhead
  have hmb:=hhb.1
  have HMB:=hD hmb
  have HSS:=hD (NdR.start HRk.out HXk.out HBk.out (by omega) #[.int .i64 op,.int .i64 a,.int .i64 b,.int .i64 c,.int .i64 d])
  have x3:=HXk.out.cell 3
  have i0':(0:Int)≤(m:Int):=by omega
  have i1':(m:Int)<(o.code.length:Int):=by omega
  have hwr:IntKind.i64.wrap ((m:Int) - 1)=(m:Int) - 1:=IntWalk.i64_in _ (by omega)
  clear hst hhb hhead hmv hbn hgo hFOLL hNOT hLABS hLG hmb
  go_upto_region 8 with(fail)
  obtain⟨W8,hW8⟩:∃ W8,(wr.alloc (.cells #[.int .i64 op,.int .i64 a,.int .i64 b,.int .i64 c,.int .i64 d] 54)).alloc (.cells #[.int .i64 0,.int .i64 0,.int .i64 0] 106)=W8:=⟨_,rfl⟩
  obtain⟨gi,hgi⟩:∃ gi,wr.heap.size=gi:=⟨_,rfl⟩
  rw [hW8] at HSS ⊢
  rw [hgi] at HSS ⊢
  obtain⟨gb,hgb⟩:∃ gb,gi+1=gb:=⟨_,rfl⟩
  rw [hgb] at HSS ⊢
  clear hW8 hgi hgb x3 e0 e1 e2 e3 e4
  have HS:=HSS
  clear HSS HRk HXk HBk
  by_cases h26:op=26
  ·subst h26
   have HON:Hid (∀ w,Calls Tryz.prog 33 #[.int .i64 26] w fun e w'=>e=.returned (.bool false)∧w=w'):=hD (fun w=>zd3 26 w)
   obtain⟨bk,hbk⟩:∃ bk:Nat→VNd,∀ j,bk j=(labK (26,a,b,c,d) j).foldl (fun b t=>ndMax b ((rowN o k).getD t.toNat ndZero)) ndZero:=⟨fun j=>_,fun _=>rfl⟩
   have HK0:Hid (bk 0=ndZero):=hD (by rw [hbk];rfl)
   have HK4:Hid (bk 4=bn):=hD (by
    rw [hbk,← HLABS.out rfl,← HBN.out]
    rfl)
   obtain⟨ag,hag⟩:∃ ag:Nat→Int,∀ j,ag j=(argOf (26,a,b,c,d)).getD j 0:=⟨fun j=>_,fun _=>rfl⟩
   have HKN:Hid (∀ j,j<4→ag j=65535→bk (j+1)=bk j):=hD (fun j hj h=>by
    rw [hbk,hbk,zm16]
    rintro⟨_,h2⟩
    exact h2 (by rw [← hag];exact h))
   have HKY:Hid (∀ j,j<4→ag j≠65535→(0≤ag j∧ag j<(o.code.length:Int))∧bk (j+1)=ndMax (bk j) ((rowN o k).getD (ag j).toNat ndZero)):=hD (fun j hj h=>by
    have h8:(opsOf (26:Int)).getD j 0=8:=by
     have:j=0 ∨ j=1 ∨ j=2 ∨ j=3:=by omega
     rcases this with rfl | rfl | rfl | rfl <;> rfl
    have hy:=zy12 (i:=(26,a,b,c,d)) (k:=j) h8 (by rw [← hag];exact h)
    refine⟨HLG.out rfl _ ?_,?_⟩
    ·rw [hag]
     exact lab_mem (i:=(26,a,b,c,d)) hj h8 (by rw [← hag];exact h)
    ·rw [hbk,hbk,hy,List.foldl_append,hag]
     rfl)
   have HAG:Hid (ag 0=a∧ag 1=b∧ag 2=c∧ag 3=d):=hD ⟨hag 0,hag 1,hag 2,hag 3⟩
   rw [← HK0.out] at HS
   clear hbk hag
   have i0:=HS.out.ins.cell 0
   go_upto_region 10 with((go_at_call 33;refine(HON.out _).mono ?_;rintro e w5 ⟨rfl,rfl⟩))
   clear i0
   go_wp2
   go_loopw [8] (fun i wr=>∃ j:Nat,j≤4∧i=.int .i64 j∧Hid (NdR w g gl gi gb #[.slice A1 o.atoms.length c1,.slice A2 o.funs.length cf,.slice A3 o.preds.length cp,.slice (some ⟨bc,of,none⟩) o.code.length cc] #[.int .i64 26,.int .i64 a,.int .i64 b,.int .i64 c,.int .i64 d] (rowN o k) (bk j) wr)) (fun i _=>4 - (intOf i).toNat)
   case atStart=>exact⟨0,by omega,rfl,HS⟩
   obtain⟨j,hj,rfl,HSj⟩:=hrel
   clear HS
   have HS:=HSj
   clear HSj
   have i0:=HS.out.ins.cell 0
   by_cases hj4:j<4
   case pos=>
    have j0:(0:Int)≤(j:Int):=by omega
    have j1:(j:Int)<4:=by omega
    have ia:wr.cell? ⟨gi,1+j,none⟩=some (.int .i64 (ag j)):=by
     obtain⟨g0,g1,g2,g3⟩:=HAG.out
     have:j=0 ∨ j=1 ∨ j=2 ∨ j=3:=by omega
     rcases this with rfl | rfl | rfl | rfl
     ·rw [g0];exact HS.out.ins.cell 1
     ·rw [g1];exact HS.out.ins.cell 2
     ·rw [g2];exact HS.out.ins.cell 3
     ·rw [g3];exact HS.out.ins.cell 4
    by_cases hno:ag j=65535
    ·have HE:=hD (HKN.out j hj4 hno)
     rw [hno] at ia
     go_wp2
     go_roundw
     case rel=>exact⟨j+1,by omega,by go_num,hD (by rw [HE.out];exact HS.out)⟩
     case measure=>simp [intOf];omega
    ·obtain⟨⟨ht0,ht1⟩,hbk1⟩:=HKY.out j hj4 hno
     have hne:(ag j != 65535)=true:=bne_iff_ne.2 hno
     obtain⟨t,ht⟩:∃ t:Nat,ag j=(t:Int):=⟨(ag j).toNat,by omega⟩
     rw [ht] at ht0 ht1 hbk1 hne ia
     have htl:t<(rowN o k).length:=by rw [hRl];omega
     have HE:Hid (bk (j+1)=ndMax (bk j) (rowN o k)[t]):=hD (by rw [hbk1,Int.toNat_natCast,List.getD_eq_getElem?_getD,List.getElem?_eq_getElem htl];rfl)
     have HMO:=hD (fun w=>rmost_any (bk j) (rowN o k)[t] w)
     rw [← HE.out] at HMO
     clear hbk1 HE hno ht
     have r0:=HS.out.row.cell (t * 3+0)
     have r1:=HS.out.row.cell (t * 3+1)
     have r2:=HS.out.row.cell (t * 3+2)
     rw [ndC_at _ t htl 0 (by decide)] at r0
     rw [ndC_at _ t htl 1 (by decide)] at r1
     rw [ndC_at _ t htl 2 (by decide)] at r2
     simp only [ndC,List.getElem?_cons_succ,List.getElem?_cons_zero,Nat.add_zero] at r0 r1 r2
     generalize (rowN o k)[t]=rt at r0 r1 r2 HMO
     obtain⟨t1,t2,t3⟩:=rt
     simp only at r0 r1 r2
     obtain⟨bj,hbj⟩:∃ bj,bk j=bj:=⟨_,rfl⟩
     rw [hbj] at HS HMO
     clear hbj
     obtain⟨b1,b2,b3⟩:=bj
     obtain⟨m0,m1,m2,-⟩:=HS.out.rl
     simp only [ndA,List.getElem?_toArray,List.getElem?_cons_succ,List.getElem?_cons_zero] at m0 m1 m2
     go_upto_region 14 with(fail)
     go_still_tail 8,(by kernel_rfl)
     change wpList _ _ _ _ _ wr.drew
     have HS:=hD (HS.out.drewN 1)
     change Hid (NdR w g gl gi gb _ _ _ _ wr.drew) at HS
     generalize wr.drew=W9 at HS ⊢
     clear m0 m1 m2 r0 r1 r2 ia i0
     go_wp2_with (first | (go_at_call 72;refine(HMO.out _).mono ?_;rintro e w5 ⟨rfl,hb5⟩;have HS:=hD (HS.out.up hb5);clear hb5) | (refine ze zq rfl (.tmp 7) (.tmp 60) rfl gb 0 (ndA (bk (j+1))) rfl rfl (zr HS.out.bh (show 0+3≤(ndA _).size from Nat.le_refl 3)) rfl (ze1 _) ?_;have HS:=hD (HS.out.setb (bk (j+1)))))
     go_roundw
     case rel=>exact⟨j+1,by omega,by go_num,HS⟩
     case measure=>simp [intOf] <;> omega
   case neg=>
   obtain rfl:j=4:=by omega
   rw [HK4.out] at HS
   obtain⟨m0,m1,m2,-⟩:=HS.out.rl
   go_upto_region 28 with(fail)
   clear m0 m1 m2 i0
   go_wp2_with (first | (refine zm zc3 zq rfl (.tmp 7) rfl gb 0 rfl (ndA bn) (zj HS.out.bh) rfl ?_) | (refine ze zq rfl (.tmp 111) (.tmp 110) rfl gl (m * 3) (ndA bn) rfl rfl (zf2 (b:=bn) HS.out.row (by omega)) rfl (ze1 bn) ?_))
   have HF:=hD (HS.out.fin (m:=m) (by omega))
   rw [HPUT.out] at HF
   go_roundw
   case rel=>exact⟨k+1,by omega,by go_num,HF.out.1,HF.out.2.1,HF.out.2.2,HNB2⟩
   case measure=>simp [intOf] <;> omega
  by_cases h4:op=4
  ·subst h4
   have HON:Hid (∀ w,Calls Tryz.prog 33 #[.int .i64 4] w fun e w'=>e=.returned (.bool true)∧w=w'):=hD (fun w=>zd3 4 w)
   have HF1:=hD (HFOLL.out (by decide) rfl (by decide))
   obtain⟨m0,m1,m2,i0,i1,i2,i3,i4,x1⟩:=HS.out.rl
   obtain⟨hm1,hm2⟩:=HF1.out
   have HFO:Hid (mv=(rowN o k).getD (m+1) ndZero):=hD hm2
   have hm3:m+1<(rowN o k).length:=by rw [hRl];omega
   have hmx:(rowN o k).getD (m+1) ndZero=(rowN o k)[m+1]:=by rw [List.getD_eq_getElem?_getD,List.getElem?_eq_getElem hm3];rfl
   rw [hmx] at HFO
   have r0:=HS.out.row.cell ((m+1) * 3+0)
   have r1:=HS.out.row.cell ((m+1) * 3+1)
   have r2:=HS.out.row.cell ((m+1) * 3+2)
   rw [ndC_at _ (m+1) hm3 0 (by decide),← HFO.out] at r0
   rw [ndC_at _ (m+1) hm3 1 (by decide),← HFO.out] at r1
   rw [ndC_at _ (m+1) hm3 2 (by decide),← HFO.out] at r2
   simp only [ndC,List.getElem?_cons_succ,List.getElem?_cons_zero,Nat.add_zero] at r0 r1 r2
   have e7:IntKind.i64.wrap ((m:Int)+1)=(m:Int)+1:=IntWalk.i64_in _ (by omega)
   have k0:(0:Int)≤(m:Int)+1:=by omega
   have k1:(m:Int)+1<(o.code.length:Int):=by omega
   clear HFO hmx hm2 hm3
   go_upto_region 9 with((go_at_call 33;refine(HON.out _).mono ?_;rintro e w5 ⟨rfl,rfl⟩))
   go_upto_region 10 with(refine ze zq rfl (.tmp 7) (.tmp 37) rfl gb 0 (ndA mv) rfl rfl (zr HS.out.bh (by decide)) rfl (ze1 mv) ?_)
   have HS:=hD (HS.out.setb mv)
   obtain⟨W8,hW7⟩:∃ W7,W8.setCells gb 0 (ndA mv).toList=W7:=⟨_,rfl⟩
   rw [hW7] at HS ⊢
   clear hW7 r0 r1 r2 m0 m1 m2 i0 i1 i2 i3 i4 x1
   obtain⟨m0,m1,m2,i0,i1,i2,i3,i4,x1⟩:=HS.out.rl
   go_wp2
   go_loopw [8] (fun i wr=>i=.int .i64 0∧W8=wr) (fun i _=>1 - (intOf i).toNat)
   case atStart=>exact⟨rfl,rfl⟩
   obtain⟨rfl,rfl⟩:=hrel
   go_upto_region 15 with(fail)
   obtain⟨p1,p2,p3⟩:=mv
   have hmb:=HMB.out
   unfold NdB at hmb
   simp only at hmb
   have mm0:=m0
   clear m0 m1 m2
   obtain⟨m0,m1,m2,-⟩:=HS.out.rl
   simp only [ndA,List.getElem?_toArray,List.getElem?_cons_succ,List.getElem?_cons_zero] at m0 m1 m2
   clear mm0
   obtain⟨hf0,hf1⟩:=hik.fa (by simp)
   simp only at hf0 hf1
   obtain⟨ak,rfl⟩:∃ ak:Nat,a=(ak:Int):=⟨a.toNat,by omega⟩
   have hak:ak<o.funs.length:=by omega
   obtain⟨bp,off,rfl,hbp,_,hc5⟩:=zy1 HV.out.funs ak hak
   have har2:arityF o (ak:Int)=o.funs[ak].2:=by
    unfold arityF
    rw [Int.toNat_natCast,List.getD_eq_getElem?_getD,List.getElem?_eq_getElem hak]
    rfl
   have har:=zz2 HOB.out (ak:Int)
   rw [har2] at har
   have c5:=(HS.out.below.cell (p:=⟨bp,off+ak * 2+1,none⟩) hbp).trans hc5
   have HBE:Hid (bn=⟨p1+1+o.funs[ak].2,p2,p3⟩):=hD (by rw [← HBN.out,← har2];rfl)
   clear hc5 har2
   generalize o.funs[ak].2=ar at c5 HBE har
   have j0:(0:Int)≤(ak:Int):=by omega
   have j1:(ak:Int)<(o.funs.length:Int):=by omega
   have e8:IntKind.i64.wrap (p1+1)=p1+1:=IntWalk.i64_in _ (by omega)
   have e9:IntKind.i64.wrap (p1+1+ar)=p1+1+ar:=IntWalk.i64_in _ (by omega)
   go_upto_region 18 with(fail)
   go_still_tail 13,(by kernel_rfl)
   change wpList _ _ _ _ _ W8.drew
   have HS:=hD (HS.out.drewN 1)
   change Hid (NdR w g gl gi gb _ _ _ _ W8.drew) at HS
   generalize W8.drew=W9 at HS ⊢
   clear m0 m1 m2 i0 i1 i2 i3 i4 x1 c5
   obtain⟨m0,m1,m2,i0,i1,i2,i3,i4,x1⟩:=HS.out.rl
   have z0:=HS.out.bh.frozen 0
   have HS:=hD (HS.out.set (b':=bn) 0 (.int .i64 (p1+1+ar)) (by rw [HBE.out];rfl))
   go_upto_region 28 with(fail)
   go_wp2_with (first | (refine zm zc3 zq rfl (.tmp 7) rfl gb 0 rfl (ndA bn) (zj HS.out.bh) rfl ?_) | (refine ze zq rfl (.tmp 111) (.tmp 110) rfl gl (m * 3) (ndA bn) rfl rfl (zf2 (b:=bn) HS.out.row (by omega)) rfl (ze1 bn) ?_))
   have HF:=hD (HS.out.fin (m:=m) (by omega))
   rw [HPUT.out] at HF
   go_roundw
   case rel=>exact⟨k+1,by omega,by go_num,HF.out.1,HF.out.2.1,HF.out.2.2,HNB2⟩
   case measure=>simp [intOf] <;> omega
  by_cases h13:op=13
  ·subst h13
   have HON:Hid (∀ w,Calls Tryz.prog 33 #[.int .i64 13] w fun e w'=>e=.returned (.bool true)∧w=w'):=hD (fun w=>zd3 13 w)
   have HF1:=hD (HFOLL.out (by decide) rfl (by decide))
   obtain⟨m0,m1,m2,i0,i1,i2,i3,i4,x1⟩:=HS.out.rl
   obtain⟨hm1,hm2⟩:=HF1.out
   have HFO:Hid (mv=(rowN o k).getD (m+1) ndZero):=hD hm2
   have hm3:m+1<(rowN o k).length:=by rw [hRl];omega
   have hmx:(rowN o k).getD (m+1) ndZero=(rowN o k)[m+1]:=by rw [List.getD_eq_getElem?_getD,List.getElem?_eq_getElem hm3];rfl
   rw [hmx] at HFO
   have r0:=HS.out.row.cell ((m+1) * 3+0)
   have r1:=HS.out.row.cell ((m+1) * 3+1)
   have r2:=HS.out.row.cell ((m+1) * 3+2)
   rw [ndC_at _ (m+1) hm3 0 (by decide),← HFO.out] at r0
   rw [ndC_at _ (m+1) hm3 1 (by decide),← HFO.out] at r1
   rw [ndC_at _ (m+1) hm3 2 (by decide),← HFO.out] at r2
   simp only [ndC,List.getElem?_cons_succ,List.getElem?_cons_zero,Nat.add_zero] at r0 r1 r2
   have e7:IntKind.i64.wrap ((m:Int)+1)=(m:Int)+1:=IntWalk.i64_in _ (by omega)
   have k0:(0:Int)≤(m:Int)+1:=by omega
   have k1:(m:Int)+1<(o.code.length:Int):=by omega
   clear HFO hmx hm2 hm3
   go_upto_region 9 with((go_at_call 33;refine(HON.out _).mono ?_;rintro e w5 ⟨rfl,rfl⟩))
   go_upto_region 10 with(refine ze zq rfl (.tmp 7) (.tmp 37) rfl gb 0 (ndA mv) rfl rfl (zr HS.out.bh (by decide)) rfl (ze1 mv) ?_)
   have HS:=hD (HS.out.setb mv)
   obtain⟨W8,hW7⟩:∃ W7,W8.setCells gb 0 (ndA mv).toList=W7:=⟨_,rfl⟩
   rw [hW7] at HS ⊢
   clear hW7 r0 r1 r2 m0 m1 m2 i0 i1 i2 i3 i4 x1
   obtain⟨m0,m1,m2,i0,i1,i2,i3,i4,x1⟩:=HS.out.rl
   go_wp2
   go_loopw [8] (fun i wr=>i=.int .i64 0∧W8=wr) (fun i _=>1 - (intOf i).toNat)
   case atStart=>exact⟨rfl,rfl⟩
   obtain⟨rfl,rfl⟩:=hrel
   go_upto_region 15 with(fail)
   obtain⟨p1,p2,p3⟩:=mv
   have hmb:=HMB.out
   unfold NdB at hmb
   simp only at hmb
   have mm0:=m0
   clear m0 m1 m2
   obtain⟨m0,m1,m2,-⟩:=HS.out.rl
   simp only [ndA,List.getElem?_toArray,List.getElem?_cons_succ,List.getElem?_cons_zero] at m0 m1 m2
   clear mm0
   obtain⟨hf0,hf1⟩:=hik.fa (by simp)
   simp only at hf0 hf1
   obtain⟨ak,rfl⟩:∃ ak:Nat,a=(ak:Int):=⟨a.toNat,by omega⟩
   have hak:ak<o.funs.length:=by omega
   obtain⟨bp,off,rfl,hbp,_,hc5⟩:=zy1 HV.out.funs ak hak
   have har2:arityF o (ak:Int)=o.funs[ak].2:=by
    unfold arityF
    rw [Int.toNat_natCast,List.getD_eq_getElem?_getD,List.getElem?_eq_getElem hak]
    rfl
   have har:=zz2 HOB.out (ak:Int)
   rw [har2] at har
   have c5:=(HS.out.below.cell (p:=⟨bp,off+ak * 2+1,none⟩) hbp).trans hc5
   have HBE:Hid (bn=⟨p1+1+o.funs[ak].2,p2,p3⟩):=hD (by rw [← HBN.out,← har2];rfl)
   clear hc5 har2
   generalize o.funs[ak].2=ar at c5 HBE har
   have j0:(0:Int)≤(ak:Int):=by omega
   have j1:(ak:Int)<(o.funs.length:Int):=by omega
   have e8:IntKind.i64.wrap (p1+1)=p1+1:=IntWalk.i64_in _ (by omega)
   have e9:IntKind.i64.wrap (p1+1+ar)=p1+1+ar:=IntWalk.i64_in _ (by omega)
   go_upto_region 18 with(fail)
   go_still_tail 13,(by kernel_rfl)
   change wpList _ _ _ _ _ W8.drew
   have HS:=hD (HS.out.drewN 1)
   change Hid (NdR w g gl gi gb _ _ _ _ W8.drew) at HS
   generalize W8.drew=W9 at HS ⊢
   clear m0 m1 m2 i0 i1 i2 i3 i4 x1 c5
   obtain⟨m0,m1,m2,i0,i1,i2,i3,i4,x1⟩:=HS.out.rl
   have z0:=HS.out.bh.frozen 0
   have HS:=hD (HS.out.set (b':=bn) 0 (.int .i64 (p1+1+ar)) (by rw [HBE.out];rfl))
   go_upto_region 28 with(fail)
   go_wp2_with (first | (refine zm zc3 zq rfl (.tmp 7) rfl gb 0 rfl (ndA bn) (zj HS.out.bh) rfl ?_) | (refine ze zq rfl (.tmp 111) (.tmp 110) rfl gl (m * 3) (ndA bn) rfl rfl (zf2 (b:=bn) HS.out.row (by omega)) rfl (ze1 bn) ?_))
   have HF:=hD (HS.out.fin (m:=m) (by omega))
   rw [HPUT.out] at HF
   go_roundw
   case rel=>exact⟨k+1,by omega,by go_num,HF.out.1,HF.out.2.1,HF.out.2.2,HNB2⟩
   case measure=>simp [intOf] <;> omega
  by_cases h5:op=5
  ·subst h5
   have HON:Hid (∀ w,Calls Tryz.prog 33 #[.int .i64 5] w fun e w'=>e=.returned (.bool true)∧w=w'):=hD (fun w=>zd3 5 w)
   have HF1:=hD (HFOLL.out (by decide) rfl (by decide))
   obtain⟨m0,m1,m2,i0,i1,i2,i3,i4,x1⟩:=HS.out.rl
   obtain⟨hm1,hm2⟩:=HF1.out
   have HFO:Hid (mv=(rowN o k).getD (m+1) ndZero):=hD hm2
   have hm3:m+1<(rowN o k).length:=by rw [hRl];omega
   have hmx:(rowN o k).getD (m+1) ndZero=(rowN o k)[m+1]:=by rw [List.getD_eq_getElem?_getD,List.getElem?_eq_getElem hm3];rfl
   rw [hmx] at HFO
   have r0:=HS.out.row.cell ((m+1) * 3+0)
   have r1:=HS.out.row.cell ((m+1) * 3+1)
   have r2:=HS.out.row.cell ((m+1) * 3+2)
   rw [ndC_at _ (m+1) hm3 0 (by decide),← HFO.out] at r0
   rw [ndC_at _ (m+1) hm3 1 (by decide),← HFO.out] at r1
   rw [ndC_at _ (m+1) hm3 2 (by decide),← HFO.out] at r2
   simp only [ndC,List.getElem?_cons_succ,List.getElem?_cons_zero,Nat.add_zero] at r0 r1 r2
   have e7:IntKind.i64.wrap ((m:Int)+1)=(m:Int)+1:=IntWalk.i64_in _ (by omega)
   have k0:(0:Int)≤(m:Int)+1:=by omega
   have k1:(m:Int)+1<(o.code.length:Int):=by omega
   clear HFO hmx hm2 hm3
   go_upto_region 9 with((go_at_call 33;refine(HON.out _).mono ?_;rintro e w5 ⟨rfl,rfl⟩))
   go_upto_region 10 with(refine ze zq rfl (.tmp 7) (.tmp 37) rfl gb 0 (ndA mv) rfl rfl (zr HS.out.bh (by decide)) rfl (ze1 mv) ?_)
   have HS:=hD (HS.out.setb mv)
   obtain⟨W8,hW7⟩:∃ W7,W8.setCells gb 0 (ndA mv).toList=W7:=⟨_,rfl⟩
   rw [hW7] at HS ⊢
   clear hW7 r0 r1 r2 m0 m1 m2 i0 i1 i2 i3 i4 x1
   obtain⟨m0,m1,m2,i0,i1,i2,i3,i4,x1⟩:=HS.out.rl
   go_wp2
   go_loopw [8] (fun i wr=>i=.int .i64 0∧W8=wr) (fun i _=>1 - (intOf i).toNat)
   case atStart=>exact⟨rfl,rfl⟩
   obtain⟨rfl,rfl⟩:=hrel
   go_upto_region 15 with(fail)
   obtain⟨p1,p2,p3⟩:=mv
   have hmb:=HMB.out
   unfold NdB at hmb
   simp only at hmb
   have mm0:=m0
   clear m0 m1 m2
   obtain⟨m0,m1,m2,-⟩:=HS.out.rl
   simp only [ndA,List.getElem?_toArray,List.getElem?_cons_succ,List.getElem?_cons_zero] at m0 m1 m2
   clear mm0
   have HBE:Hid (bn=⟨p1+2,p2,p3⟩):=hD (by rw [← HBN.out];rfl)
   have e8:IntKind.i64.wrap (p1+2)=p1+2:=IntWalk.i64_in _ (by omega)
   have z0:=HS.out.bh.frozen 0
   have HS:=hD (HS.out.set (b':=bn) 0 (.int .i64 (p1+2)) (by rw [HBE.out];rfl))
   go_upto_region 28 with(fail)
   go_wp2_with (first | (refine zm zc3 zq rfl (.tmp 7) rfl gb 0 rfl (ndA bn) (zj HS.out.bh) rfl ?_) | (refine ze zq rfl (.tmp 111) (.tmp 110) rfl gl (m * 3) (ndA bn) rfl rfl (zf2 (b:=bn) HS.out.row (by omega)) rfl (ze1 bn) ?_))
   have HF:=hD (HS.out.fin (m:=m) (by omega))
   rw [HPUT.out] at HF
   go_roundw
   case rel=>exact⟨k+1,by omega,by go_num,HF.out.1,HF.out.2.1,HF.out.2.2,HNB2⟩
   case measure=>simp [intOf] <;> omega
  by_cases h14:op=14
  ·subst h14
   have HON:Hid (∀ w,Calls Tryz.prog 33 #[.int .i64 14] w fun e w'=>e=.returned (.bool true)∧w=w'):=hD (fun w=>zd3 14 w)
   have HF1:=hD (HFOLL.out (by decide) rfl (by decide))
   obtain⟨m0,m1,m2,i0,i1,i2,i3,i4,x1⟩:=HS.out.rl
   obtain⟨hm1,hm2⟩:=HF1.out
   have HFO:Hid (mv=(rowN o k).getD (m+1) ndZero):=hD hm2
   have hm3:m+1<(rowN o k).length:=by rw [hRl];omega
   have hmx:(rowN o k).getD (m+1) ndZero=(rowN o k)[m+1]:=by rw [List.getD_eq_getElem?_getD,List.getElem?_eq_getElem hm3];rfl
   rw [hmx] at HFO
   have r0:=HS.out.row.cell ((m+1) * 3+0)
   have r1:=HS.out.row.cell ((m+1) * 3+1)
   have r2:=HS.out.row.cell ((m+1) * 3+2)
   rw [ndC_at _ (m+1) hm3 0 (by decide),← HFO.out] at r0
   rw [ndC_at _ (m+1) hm3 1 (by decide),← HFO.out] at r1
   rw [ndC_at _ (m+1) hm3 2 (by decide),← HFO.out] at r2
   simp only [ndC,List.getElem?_cons_succ,List.getElem?_cons_zero,Nat.add_zero] at r0 r1 r2
   have e7:IntKind.i64.wrap ((m:Int)+1)=(m:Int)+1:=IntWalk.i64_in _ (by omega)
   have k0:(0:Int)≤(m:Int)+1:=by omega
   have k1:(m:Int)+1<(o.code.length:Int):=by omega
   clear HFO hmx hm2 hm3
   go_upto_region 9 with((go_at_call 33;refine(HON.out _).mono ?_;rintro e w5 ⟨rfl,rfl⟩))
   go_upto_region 10 with(refine ze zq rfl (.tmp 7) (.tmp 37) rfl gb 0 (ndA mv) rfl rfl (zr HS.out.bh (by decide)) rfl (ze1 mv) ?_)
   have HS:=hD (HS.out.setb mv)
   obtain⟨W8,hW7⟩:∃ W7,W8.setCells gb 0 (ndA mv).toList=W7:=⟨_,rfl⟩
   rw [hW7] at HS ⊢
   clear hW7 r0 r1 r2 m0 m1 m2 i0 i1 i2 i3 i4 x1
   obtain⟨m0,m1,m2,i0,i1,i2,i3,i4,x1⟩:=HS.out.rl
   go_wp2
   go_loopw [8] (fun i wr=>i=.int .i64 0∧W8=wr) (fun i _=>1 - (intOf i).toNat)
   case atStart=>exact⟨rfl,rfl⟩
   obtain⟨rfl,rfl⟩:=hrel
   go_upto_region 15 with(fail)
   obtain⟨p1,p2,p3⟩:=mv
   have hmb:=HMB.out
   unfold NdB at hmb
   simp only at hmb
   have mm0:=m0
   clear m0 m1 m2
   obtain⟨m0,m1,m2,-⟩:=HS.out.rl
   simp only [ndA,List.getElem?_toArray,List.getElem?_cons_succ,List.getElem?_cons_zero] at m0 m1 m2
   clear mm0
   have HBE:Hid (bn=⟨p1+2,p2,p3⟩):=hD (by rw [← HBN.out];rfl)
   have e8:IntKind.i64.wrap (p1+2)=p1+2:=IntWalk.i64_in _ (by omega)
   have z0:=HS.out.bh.frozen 0
   have HS:=hD (HS.out.set (b':=bn) 0 (.int .i64 (p1+2)) (by rw [HBE.out];rfl))
   go_upto_region 28 with(fail)
   go_wp2_with (first | (refine zm zc3 zq rfl (.tmp 7) rfl gb 0 rfl (ndA bn) (zj HS.out.bh) rfl ?_) | (refine ze zq rfl (.tmp 111) (.tmp 110) rfl gl (m * 3) (ndA bn) rfl rfl (zf2 (b:=bn) HS.out.row (by omega)) rfl (ze1 bn) ?_))
   have HF:=hD (HS.out.fin (m:=m) (by omega))
   rw [HPUT.out] at HF
   go_roundw
   case rel=>exact⟨k+1,by omega,by go_num,HF.out.1,HF.out.2.1,HF.out.2.2,HNB2⟩
   case measure=>simp [intOf] <;> omega
  by_cases h10:op=10
  ·subst h10
   have HON:Hid (∀ w,Calls Tryz.prog 33 #[.int .i64 10] w fun e w'=>e=.returned (.bool true)∧w=w'):=hD (fun w=>zd3 10 w)
   have HF1:=hD (HFOLL.out (by decide) rfl (by decide))
   obtain⟨m0,m1,m2,i0,i1,i2,i3,i4,x1⟩:=HS.out.rl
   obtain⟨hm1,hm2⟩:=HF1.out
   have HFO:Hid (mv=(rowN o k).getD (m+1) ndZero):=hD hm2
   have hm3:m+1<(rowN o k).length:=by rw [hRl];omega
   have hmx:(rowN o k).getD (m+1) ndZero=(rowN o k)[m+1]:=by rw [List.getD_eq_getElem?_getD,List.getElem?_eq_getElem hm3];rfl
   rw [hmx] at HFO
   have r0:=HS.out.row.cell ((m+1) * 3+0)
   have r1:=HS.out.row.cell ((m+1) * 3+1)
   have r2:=HS.out.row.cell ((m+1) * 3+2)
   rw [ndC_at _ (m+1) hm3 0 (by decide),← HFO.out] at r0
   rw [ndC_at _ (m+1) hm3 1 (by decide),← HFO.out] at r1
   rw [ndC_at _ (m+1) hm3 2 (by decide),← HFO.out] at r2
   simp only [ndC,List.getElem?_cons_succ,List.getElem?_cons_zero,Nat.add_zero] at r0 r1 r2
   have e7:IntKind.i64.wrap ((m:Int)+1)=(m:Int)+1:=IntWalk.i64_in _ (by omega)
   have k0:(0:Int)≤(m:Int)+1:=by omega
   have k1:(m:Int)+1<(o.code.length:Int):=by omega
   clear HFO hmx hm2 hm3
   go_upto_region 9 with((go_at_call 33;refine(HON.out _).mono ?_;rintro e w5 ⟨rfl,rfl⟩))
   go_upto_region 10 with(refine ze zq rfl (.tmp 7) (.tmp 37) rfl gb 0 (ndA mv) rfl rfl (zr HS.out.bh (by decide)) rfl (ze1 mv) ?_)
   have HS:=hD (HS.out.setb mv)
   obtain⟨W8,hW7⟩:∃ W7,W8.setCells gb 0 (ndA mv).toList=W7:=⟨_,rfl⟩
   rw [hW7] at HS ⊢
   clear hW7 r0 r1 r2 m0 m1 m2 i0 i1 i2 i3 i4 x1
   obtain⟨m0,m1,m2,i0,i1,i2,i3,i4,x1⟩:=HS.out.rl
   go_wp2
   go_loopw [8] (fun i wr=>i=.int .i64 0∧W8=wr) (fun i _=>1 - (intOf i).toNat)
   case atStart=>exact⟨rfl,rfl⟩
   obtain⟨rfl,rfl⟩:=hrel
   go_upto_region 15 with(fail)
   obtain⟨p1,p2,p3⟩:=mv
   have hmb:=HMB.out
   unfold NdB at hmb
   simp only at hmb
   have mm0:=m0
   clear m0 m1 m2
   obtain⟨m0,m1,m2,-⟩:=HS.out.rl
   simp only [ndA,List.getElem?_toArray,List.getElem?_cons_succ,List.getElem?_cons_zero] at m0 m1 m2
   clear mm0
   have HBE:Hid (bn=⟨p1+1,p2,p3⟩):=hD (by rw [← HBN.out];rfl)
   have e8:IntKind.i64.wrap (p1+1)=p1+1:=IntWalk.i64_in _ (by omega)
   have z0:=HS.out.bh.frozen 0
   have HS:=hD (HS.out.set (b':=bn) 0 (.int .i64 (p1+1)) (by rw [HBE.out];rfl))
   go_upto_region 28 with(fail)
   go_wp2_with (first | (refine zm zc3 zq rfl (.tmp 7) rfl gb 0 rfl (ndA bn) (zj HS.out.bh) rfl ?_) | (refine ze zq rfl (.tmp 111) (.tmp 110) rfl gl (m * 3) (ndA bn) rfl rfl (zf2 (b:=bn) HS.out.row (by omega)) rfl (ze1 bn) ?_))
   have HF:=hD (HS.out.fin (m:=m) (by omega))
   rw [HPUT.out] at HF
   go_roundw
   case rel=>exact⟨k+1,by omega,by go_num,HF.out.1,HF.out.2.1,HF.out.2.2,HNB2⟩
   case measure=>simp [intOf] <;> omega
  by_cases h15:op=15
  ·subst h15
   have HON:Hid (∀ w,Calls Tryz.prog 33 #[.int .i64 15] w fun e w'=>e=.returned (.bool true)∧w=w'):=hD (fun w=>zd3 15 w)
   have HF1:=hD (HFOLL.out (by decide) rfl (by decide))
   obtain⟨m0,m1,m2,i0,i1,i2,i3,i4,x1⟩:=HS.out.rl
   obtain⟨hm1,hm2⟩:=HF1.out
   have HFO:Hid (mv=(rowN o k).getD (m+1) ndZero):=hD hm2
   have hm3:m+1<(rowN o k).length:=by rw [hRl];omega
   have hmx:(rowN o k).getD (m+1) ndZero=(rowN o k)[m+1]:=by rw [List.getD_eq_getElem?_getD,List.getElem?_eq_getElem hm3];rfl
   rw [hmx] at HFO
   have r0:=HS.out.row.cell ((m+1) * 3+0)
   have r1:=HS.out.row.cell ((m+1) * 3+1)
   have r2:=HS.out.row.cell ((m+1) * 3+2)
   rw [ndC_at _ (m+1) hm3 0 (by decide),← HFO.out] at r0
   rw [ndC_at _ (m+1) hm3 1 (by decide),← HFO.out] at r1
   rw [ndC_at _ (m+1) hm3 2 (by decide),← HFO.out] at r2
   simp only [ndC,List.getElem?_cons_succ,List.getElem?_cons_zero,Nat.add_zero] at r0 r1 r2
   have e7:IntKind.i64.wrap ((m:Int)+1)=(m:Int)+1:=IntWalk.i64_in _ (by omega)
   have k0:(0:Int)≤(m:Int)+1:=by omega
   have k1:(m:Int)+1<(o.code.length:Int):=by omega
   clear HFO hmx hm2 hm3
   go_upto_region 9 with((go_at_call 33;refine(HON.out _).mono ?_;rintro e w5 ⟨rfl,rfl⟩))
   go_upto_region 10 with(refine ze zq rfl (.tmp 7) (.tmp 37) rfl gb 0 (ndA mv) rfl rfl (zr HS.out.bh (by decide)) rfl (ze1 mv) ?_)
   have HS:=hD (HS.out.setb mv)
   obtain⟨W8,hW7⟩:∃ W7,W8.setCells gb 0 (ndA mv).toList=W7:=⟨_,rfl⟩
   rw [hW7] at HS ⊢
   clear hW7 r0 r1 r2 m0 m1 m2 i0 i1 i2 i3 i4 x1
   obtain⟨m0,m1,m2,i0,i1,i2,i3,i4,x1⟩:=HS.out.rl
   go_wp2
   go_loopw [8] (fun i wr=>i=.int .i64 0∧W8=wr) (fun i _=>1 - (intOf i).toNat)
   case atStart=>exact⟨rfl,rfl⟩
   obtain⟨rfl,rfl⟩:=hrel
   go_upto_region 15 with(fail)
   obtain⟨p1,p2,p3⟩:=mv
   have hmb:=HMB.out
   unfold NdB at hmb
   simp only at hmb
   have mm0:=m0
   clear m0 m1 m2
   obtain⟨m0,m1,m2,-⟩:=HS.out.rl
   simp only [ndA,List.getElem?_toArray,List.getElem?_cons_succ,List.getElem?_cons_zero] at m0 m1 m2
   clear mm0
   obtain⟨ha0,ha1⟩:=hik.ea rfl
   simp only at ha0 ha1
   have HBE:Hid (bn=⟨p1,p2+3+a,p3⟩):=hD (by rw [← HBN.out];rfl)
   have e8:IntKind.i64.wrap (p2+3)=p2+3:=IntWalk.i64_in _ (by omega)
   have e9:IntKind.i64.wrap (p2+3+a)=p2+3+a:=IntWalk.i64_in _ (by omega)
   have z1:=HS.out.bh.frozen 1
   have HS:=hD (HS.out.set (b':=bn) 1 (.int .i64 (p2+3+a)) (by rw [HBE.out];rfl))
   go_upto_region 28 with(fail)
   go_wp2_with (first | (refine zm zc3 zq rfl (.tmp 7) rfl gb 0 rfl (ndA bn) (zj HS.out.bh) rfl ?_) | (refine ze zq rfl (.tmp 111) (.tmp 110) rfl gl (m * 3) (ndA bn) rfl rfl (zf2 (b:=bn) HS.out.row (by omega)) rfl (ze1 bn) ?_))
   have HF:=hD (HS.out.fin (m:=m) (by omega))
   rw [HPUT.out] at HF
   go_roundw
   case rel=>exact⟨k+1,by omega,by go_num,HF.out.1,HF.out.2.1,HF.out.2.2,HNB2⟩
   case measure=>simp [intOf] <;> omega
  by_cases h20:op=20
  ·subst h20
   have HON:Hid (∀ w,Calls Tryz.prog 33 #[.int .i64 20] w fun e w'=>e=.returned (.bool true)∧w=w'):=hD (fun w=>zd3 20 w)
   have HF1:=hD (HFOLL.out (by decide) rfl (by decide))
   obtain⟨m0,m1,m2,i0,i1,i2,i3,i4,x1⟩:=HS.out.rl
   obtain⟨hm1,hm2⟩:=HF1.out
   have HFO:Hid (mv=(rowN o k).getD (m+1) ndZero):=hD hm2
   have hm3:m+1<(rowN o k).length:=by rw [hRl];omega
   have hmx:(rowN o k).getD (m+1) ndZero=(rowN o k)[m+1]:=by rw [List.getD_eq_getElem?_getD,List.getElem?_eq_getElem hm3];rfl
   rw [hmx] at HFO
   have r0:=HS.out.row.cell ((m+1) * 3+0)
   have r1:=HS.out.row.cell ((m+1) * 3+1)
   have r2:=HS.out.row.cell ((m+1) * 3+2)
   rw [ndC_at _ (m+1) hm3 0 (by decide),← HFO.out] at r0
   rw [ndC_at _ (m+1) hm3 1 (by decide),← HFO.out] at r1
   rw [ndC_at _ (m+1) hm3 2 (by decide),← HFO.out] at r2
   simp only [ndC,List.getElem?_cons_succ,List.getElem?_cons_zero,Nat.add_zero] at r0 r1 r2
   have e7:IntKind.i64.wrap ((m:Int)+1)=(m:Int)+1:=IntWalk.i64_in _ (by omega)
   have k0:(0:Int)≤(m:Int)+1:=by omega
   have k1:(m:Int)+1<(o.code.length:Int):=by omega
   clear HFO hmx hm2 hm3
   go_upto_region 9 with((go_at_call 33;refine(HON.out _).mono ?_;rintro e w5 ⟨rfl,rfl⟩))
   go_upto_region 10 with(refine ze zq rfl (.tmp 7) (.tmp 37) rfl gb 0 (ndA mv) rfl rfl (zr HS.out.bh (by decide)) rfl (ze1 mv) ?_)
   have HS:=hD (HS.out.setb mv)
   obtain⟨W8,hW7⟩:∃ W7,W8.setCells gb 0 (ndA mv).toList=W7:=⟨_,rfl⟩
   rw [hW7] at HS ⊢
   clear hW7 r0 r1 r2 m0 m1 m2 i0 i1 i2 i3 i4 x1
   obtain⟨m0,m1,m2,i0,i1,i2,i3,i4,x1⟩:=HS.out.rl
   go_wp2
   go_loopw [8] (fun i wr=>i=.int .i64 0∧W8=wr) (fun i _=>1 - (intOf i).toNat)
   case atStart=>exact⟨rfl,rfl⟩
   obtain⟨rfl,rfl⟩:=hrel
   go_upto_region 15 with(fail)
   obtain⟨p1,p2,p3⟩:=mv
   have hmb:=HMB.out
   unfold NdB at hmb
   simp only at hmb
   have mm0:=m0
   clear m0 m1 m2
   obtain⟨m0,m1,m2,-⟩:=HS.out.rl
   simp only [ndA,List.getElem?_toArray,List.getElem?_cons_succ,List.getElem?_cons_zero] at m0 m1 m2
   clear mm0
   have HBE:Hid (bn=⟨p1,p2,p3+1⟩):=hD (by rw [← HBN.out];rfl)
   have e8:IntKind.i64.wrap (p3+1)=p3+1:=IntWalk.i64_in _ (by omega)
   have z2:=HS.out.bh.frozen 2
   have HS:=hD (HS.out.set (b':=bn) 2 (.int .i64 (p3+1)) (by rw [HBE.out];rfl))
   go_upto_region 28 with(fail)
   go_wp2_with (first | (refine zm zc3 zq rfl (.tmp 7) rfl gb 0 rfl (ndA bn) (zj HS.out.bh) rfl ?_) | (refine ze zq rfl (.tmp 111) (.tmp 110) rfl gl (m * 3) (ndA bn) rfl rfl (zf2 (b:=bn) HS.out.row (by omega)) rfl (ze1 bn) ?_))
   have HF:=hD (HS.out.fin (m:=m) (by omega))
   rw [HPUT.out] at HF
   go_roundw
   case rel=>exact⟨k+1,by omega,by go_num,HF.out.1,HF.out.2.1,HF.out.2.2,HNB2⟩
   case measure=>simp [intOf] <;> omega
  by_cases hnot:op=17 ∨ onV op=false
  ·have f4:(op == 4)=false:=beq_eq_false_iff_ne.2 h4
   have f13:(op == 13)=false:=beq_eq_false_iff_ne.2 h13
   have f5:(op == 5)=false:=beq_eq_false_iff_ne.2 h5
   have f14:(op == 14)=false:=beq_eq_false_iff_ne.2 h14
   have f10:(op == 10)=false:=beq_eq_false_iff_ne.2 h10
   have f15:(op == 15)=false:=beq_eq_false_iff_ne.2 h15
   have f20:(op == 20)=false:=beq_eq_false_iff_ne.2 h20
   have f26:(op == 26)=false:=beq_eq_false_iff_ne.2 h26
   have HBE:Hid (mv=bn):=hD (by
    rw [← HBN.out]
    unfold ndOwn
    simp only
    rw [if_neg (by omega),if_neg (by omega),if_neg (by omega),if_neg (by omega),if_neg (by omega)])
   have HMZ:=hD (HNOT.out h26 hnot)
   rw [← HMZ.out] at HS
   obtain⟨m0,m1,m2,i0,i1,i2,i3,i4,x1⟩:=HS.out.rl
   by_cases h17:op=17
   ·subst h17
    have HON:Hid (∀ w,Calls Tryz.prog 33 #[.int .i64 17] w fun e w'=>e=.returned (.bool true)∧w=w'):=hD (fun w=>zd3 17 w)
    go_upto_region 10 with((go_at_call 33;refine(HON.out _).mono ?_;rintro e w5 ⟨rfl,rfl⟩))
    go_wp2
    go_loopw [8] (fun i wr=>i=.int .i64 0∧W8=wr) (fun i _=>1 - (intOf i).toNat)
    case atStart=>exact⟨rfl,rfl⟩
    obtain⟨rfl,rfl⟩:=hrel
    go_upto_region 15 with(fail)
    rw [HBE.out] at HS
    go_upto_region 28 with(fail)
    go_wp2_with (first | (refine zm zc3 zq rfl (.tmp 7) rfl gb 0 rfl (ndA bn) (zj HS.out.bh) rfl ?_) | (refine ze zq rfl (.tmp 111) (.tmp 110) rfl gl (m * 3) (ndA bn) rfl rfl (zf2 (b:=bn) HS.out.row (by omega)) rfl (ze1 bn) ?_))
    have HF:=hD (HS.out.fin (m:=m) (by omega))
    rw [HPUT.out] at HF
    go_roundw
    case rel=>exact⟨k+1,by omega,by go_num,HF.out.1,HF.out.2.1,HF.out.2.2,HNB2⟩
    case measure=>simp [intOf] <;> omega
   ·have hof:onV op=false:=by rcases hnot with h | h;exact absurd h h17;exact h
    have HON:Hid (∀ w,Calls Tryz.prog 33 #[.int .i64 op] w fun e w'=>e=.returned (.bool false)∧w=w'):=hD (fun w=>by have h:=zd3 op w;rw [hof] at h;exact h)
    go_upto_region 10 with((go_at_call 33;refine(HON.out _).mono ?_;rintro e w5 ⟨rfl,rfl⟩))
    go_wp2
    go_loopw [8] (fun i wr=>i=.int .i64 0∧W8=wr) (fun i _=>1 - (intOf i).toNat)
    case atStart=>exact⟨rfl,rfl⟩
    obtain⟨rfl,rfl⟩:=hrel
    go_upto_region 15 with(fail)
    rw [HBE.out] at HS
    go_upto_region 28 with(fail)
    go_wp2_with (first | (refine zm zc3 zq rfl (.tmp 7) rfl gb 0 rfl (ndA bn) (zj HS.out.bh) rfl ?_) | (refine ze zq rfl (.tmp 111) (.tmp 110) rfl gl (m * 3) (ndA bn) rfl rfl (zf2 (b:=bn) HS.out.row (by omega)) rfl (ze1 bn) ?_))
    have HF:=hD (HS.out.fin (m:=m) (by omega))
    rw [HPUT.out] at HF
    go_roundw
    case rel=>exact⟨k+1,by omega,by go_num,HF.out.1,HF.out.2.1,HF.out.2.2,HNB2⟩
    case measure=>simp [intOf] <;> omega
  ·have h17:op≠17:=fun h=>hnot (.inl h)
   have hon:onV op=true:=by cases h:onV op with | true=>rfl | false=>exact absurd (.inr h) hnot
   have f4:(op == 4)=false:=beq_eq_false_iff_ne.2 h4
   have f13:(op == 13)=false:=beq_eq_false_iff_ne.2 h13
   have f5:(op == 5)=false:=beq_eq_false_iff_ne.2 h5
   have f14:(op == 14)=false:=beq_eq_false_iff_ne.2 h14
   have f10:(op == 10)=false:=beq_eq_false_iff_ne.2 h10
   have f15:(op == 15)=false:=beq_eq_false_iff_ne.2 h15
   have f20:(op == 20)=false:=beq_eq_false_iff_ne.2 h20
   have f26:(op == 26)=false:=beq_eq_false_iff_ne.2 h26
   have HBE:Hid (mv=bn):=hD (by
    rw [← HBN.out]
    unfold ndOwn
    simp only
    rw [if_neg (by omega),if_neg (by omega),if_neg (by omega),if_neg (by omega),if_neg (by omega)])
   have f17:(op != 17)=true:=bne_iff_ne.2 h17
   have HON:Hid (∀ w,Calls Tryz.prog 33 #[.int .i64 op] w fun e w'=>e=.returned (.bool true)∧w=w'):=hD (fun w=>by have h:=zd3 op w;rw [hon] at h;exact h)
   have HF1:=hD (HFOLL.out h26 hon h17)
   obtain⟨m0,m1,m2,i0,i1,i2,i3,i4,x1⟩:=HS.out.rl
   obtain⟨hm1,hm2⟩:=HF1.out
   have HFO:Hid (mv=(rowN o k).getD (m+1) ndZero):=hD hm2
   have hm3:m+1<(rowN o k).length:=by rw [hRl];omega
   have hmx:(rowN o k).getD (m+1) ndZero=(rowN o k)[m+1]:=by rw [List.getD_eq_getElem?_getD,List.getElem?_eq_getElem hm3];rfl
   rw [hmx] at HFO
   have r0:=HS.out.row.cell ((m+1) * 3+0)
   have r1:=HS.out.row.cell ((m+1) * 3+1)
   have r2:=HS.out.row.cell ((m+1) * 3+2)
   rw [ndC_at _ (m+1) hm3 0 (by decide),← HFO.out] at r0
   rw [ndC_at _ (m+1) hm3 1 (by decide),← HFO.out] at r1
   rw [ndC_at _ (m+1) hm3 2 (by decide),← HFO.out] at r2
   simp only [ndC,List.getElem?_cons_succ,List.getElem?_cons_zero,Nat.add_zero] at r0 r1 r2
   have e7:IntKind.i64.wrap ((m:Int)+1)=(m:Int)+1:=IntWalk.i64_in _ (by omega)
   have k0:(0:Int)≤(m:Int)+1:=by omega
   have k1:(m:Int)+1<(o.code.length:Int):=by omega
   clear HFO hmx hm2 hm3
   go_upto_region 9 with((go_at_call 33;refine(HON.out _).mono ?_;rintro e w5 ⟨rfl,rfl⟩))
   go_upto_region 10 with(refine ze zq rfl (.tmp 7) (.tmp 37) rfl gb 0 (ndA mv) rfl rfl (zr HS.out.bh (by decide)) rfl (ze1 mv) ?_)
   have HS:=hD (HS.out.setb mv)
   obtain⟨W8,hW7⟩:∃ W7,W8.setCells gb 0 (ndA mv).toList=W7:=⟨_,rfl⟩
   rw [hW7] at HS ⊢
   clear hW7 r0 r1 r2 m0 m1 m2 i0 i1 i2 i3 i4 x1
   obtain⟨m0,m1,m2,i0,i1,i2,i3,i4,x1⟩:=HS.out.rl
   go_wp2
   go_loopw [8] (fun i wr=>i=.int .i64 0∧W8=wr) (fun i _=>1 - (intOf i).toNat)
   case atStart=>exact⟨rfl,rfl⟩
   obtain⟨rfl,rfl⟩:=hrel
   go_upto_region 15 with(fail)
   rw [HBE.out] at HS
   go_upto_region 28 with(fail)
   go_wp2_with (first | (refine zm zc3 zq rfl (.tmp 7) rfl gb 0 rfl (ndA bn) (zj HS.out.bh) rfl ?_) | (refine ze zq rfl (.tmp 111) (.tmp 110) rfl gl (m * 3) (ndA bn) rfl rfl (zf2 (b:=bn) HS.out.row (by omega)) rfl (ze1 bn) ?_))
   have HF:=hD (HS.out.fin (m:=m) (by omega))
   rw [HPUT.out] at HF
   go_roundw
   case rel=>exact⟨k+1,by omega,by go_num,HF.out.1,HF.out.2.1,HF.out.2.2,HNB2⟩
   case measure=>simp [intOf] <;> omega
end Go.Proofs.YtlmbiafloiompaaGreatDoor
