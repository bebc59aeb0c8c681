/-
 verify's needs (layer 11): the Need of each place. Conditions: an object that may be,of which each instruction goes on to places behind it.
-/
import Derived.Test.YtlmbiafloiompaaGreatDoorJO19
set_option linter.unusedVariables false
set_option linter.unusedSimpArgs false
namespace Go.Proofs.YtlmbiafloiompaaGreatDoor
open Go Go.RowKit
set_option maxRecDepth 100000
set_option maxHeartbeats 32000000 in
theorem needs_any {o:Ob} (ho:ObK o) (hgo:∀ n,n<o.code.length→∀ t ∈ followV n (o.code.getD n (0,0,0,0,0)),(n:Int)<t∧t<(o.code.length:Int)) {va vf vp vc:Value} {w:World} (hv:ObAt w va vf vp vc o) :
  Calls Tryz.prog 28 #[.agg #[va,vf,vp,vc]] w fun e w'=>∃ v,e=.returned v∧CellsAt w' v o.code.length ((needsV o o.code.length).flatMap ndC)∧(∀ k,v.ownBlock=some k→w.heap.size≤k)∧Below w.heap.size w w':=by
 obtain⟨A1,c1,rfl⟩:=CellsAt.form hv.atoms
 obtain⟨A2,cf,rfl⟩:=CellsAt.form hv.funs
 obtain⟨A3,cp,rfl⟩:=CellsAt.form hv.preds
 obtain⟨A4,cc,rfl⟩:=CellsAt.form hv.code
 have HV:=hD hv
 have HOB:=hD ho
 have HGO:=hD hgo
 have hlc:=ho.lc
 clear hv ho hgo
 obtain⟨g,hg⟩:∃ g,w.heap.size=g:=⟨_,rfl⟩
 have HB:=hD (za w (.cells #[.slice A1 o.atoms.length c1,.slice A2 o.funs.length cf,.slice A3 o.preds.length cp,.slice A4 o.code.length cc] 35))
 have HX:=hD (Box.new w 35 #[.slice A1 o.atoms.length c1,.slice A2 o.funs.length cf,.slice A3 o.preds.length cp,.slice A4 o.code.length cc])
 go_enter Tryz.func28,Tryz.ntmps28
 go_upto_region 1 with(fail)
 obtain⟨w1,hw1⟩:∃ w1,w.alloc (.cells #[.slice A1 o.atoms.length c1,.slice A2 o.funs.length cf,.slice A3 o.preds.length cp,.slice A4 o.code.length cc] 35)=w1:=⟨_,rfl⟩
 rw [hw1] at HB HX ⊢
 rw [hg] at HX
 clear hw1
 have hmk:=zl13 o.code.length hlc w1
 have HR:=hD (Box.new w1 105 ((List.replicate o.code.length ndZero).flatMap ndC).toArray)
 have HX2:=hD (HX.out.alloc (.cells ((List.replicate o.code.length ndZero).flatMap ndC).toArray 105))
 have HB2:=hD (HB.out.alloc HB.out.size (.cells ((List.replicate o.code.length ndZero).flatMap ndC).toArray 105))
 have x3:=HX.out.cell 3
 have hgg:=HX.out.lt
 have hgs:=HB.out.size
 obtain⟨gl,hgle⟩:∃ gl,w1.heap.size=gl:=⟨_,rfl⟩
 have R0:Hid (rowN o 0=List.replicate o.code.length ndZero):=hD (by unfold rowN needsV;rw [List.append_nil,Nat.sub_zero])
 rw [← R0.out] at HR HX2 HB2 hmk
 rw [hgle] at HR hgg hgs hmk
 clear R0
 go_upto_region 2 with(fail)
 obtain⟨w2,hw2⟩:∃ w2,w1.alloc (.cells ((rowN o 0).flatMap ndC).toArray 105)=w2:=⟨_,rfl⟩
 rw [hw2] at HR HX2 HB2 ⊢
 clear hw2 hmk x3 HX HB
 go_wp2
 have B0:Hid (∀ b ∈ rowN o 0,NdB ((0:Nat):Int) b):=hD (fun b hb=>by
  unfold rowN needsV at hb
  rw [List.append_nil] at hb
  rw [List.eq_of_mem_replicate hb]
  exact NdB.zero (Int.le_refl _))
 go_loopw [4] (fun nv wr=>∃ k:Nat,k≤o.code.length∧nv=.int .i64 ((o.code.length:Int) - k - 1)∧Hid (Box wr gl 105 ((rowN o k).flatMap ndC).toArray)∧Hid (Box wr g 35 #[.slice A1 o.atoms.length c1,.slice A2 o.funs.length cf,.slice A3 o.preds.length cp,.slice A4 o.code.length cc])∧Hid (Below w.heap.size w wr)∧Hid (∀ b ∈ rowN o k,NdB (k:Int) b)) (fun nv _=>(intOf nv+1).toNat)
 case atStart=>exact⟨0,by omega,by go_num,HR,HX2,HB2,B0⟩
 obtain⟨k,hk,hnv,HRk,HXk,HBk,HNB⟩:=hrel
 clear HR HX2 HB2 B0
 by_cases hlt:k<o.code.length
 case pos=>
  obtain⟨m,hm⟩:∃ m,o.code.length - (k+1)=m:=⟨_,rfl⟩
  rw [show(o.code.length:Int) - k - 1=(m:Int) by omega] at hnv
  subst hnv
  have hmc:m<o.code.length:=by omega
  obtain⟨bc,of,rfl,hbc,d0,d1,d2,d3,d4⟩:=zm3 HV.out.code m hmc
  have e0:=(HBk.out.cell (p:=⟨bc,of+m * 5,none⟩) hbc).trans d0
  have e1:=(HBk.out.cell (p:=⟨bc,of+m * 5+1,none⟩) hbc).trans d1
  have e2:=(HBk.out.cell (p:=⟨bc,of+m * 5+2,none⟩) hbc).trans d2
  have e3:=(HBk.out.cell (p:=⟨bc,of+m * 5+3,none⟩) hbc).trans d3
  have e4:=(HBk.out.cell (p:=⟨bc,of+m * 5+4,none⟩) hbc).trans d4
  have hik:=HOB.out.ins o.code[m] (List.getElem_mem hmc)
  have hgd:o.code.getD m (0,0,0,0,0)=o.code[m]:=by rw [List.getD_eq_getElem?_getD,List.getElem?_eq_getElem hmc];rfl
  have hgo:=HGO.out m hmc
  have hst:=zj15 HOB.out k (by omega) (by rw [hm];exact fun t ht=>(hgo t ht).1)
  have hhb:=head_b HOB.out k hlt HNB.out
  have hhead:headN o k=ndAnd (ndSelf o o.code[m]) (mostV (fun t=>(rowN o k).getD t.toNat ndZero) (followV m o.code[m])):=by unfold headN;rw [hm,hgd]
  rw [hm] at hst hhb
  rw [hgd] at hgo hhb
  clear d0 d1 d2 d3 d4 hgd
  obtain⟨ix,hix⟩:∃ ix,o.code[m]=ix:=⟨_,rfl⟩
  rw [hix] at e0 e1 e2 e3 e4 hik hgo hhead hhb
  clear hix
  obtain⟨op,a,b,c,d⟩:=ix
  simp only at e0 e1 e2 e3 e4
  have hRl:=zv18 o k hk
  have hfl:(followV m (op,a,b,c,d)).length≤4:=by
   unfold followV
   split
   ·rw [← zs8];exact Nat.le_trans (zt8 _ _) (zx9 _)
   ·split
    ·exact Nat.zero_le _
    ·exact Nat.succ_le_of_lt (by decide)
  have hsb:=self_b HOB.out hik
  obtain⟨mv,hmv⟩:∃ mv,mostV (fun t=>(rowN o k).getD t.toNat ndZero) (followV m (op,a,b,c,d))=mv:=⟨_,rfl⟩
  obtain⟨sv,hsv⟩:∃ sv,ndSelf o (op,a,b,c,d)=sv:=⟨_,rfl⟩
  obtain⟨bn,hbn⟩:∃ bn,headN o k=bn:=⟨_,rfl⟩
  rw [hbn,hsv,hmv] at hhead
  rw [hbn] at hst hhb
  have HPUT:Hid (putL ((rowN o k).flatMap ndC).toArray (m * 3) (ndA bn).toList=((rowN o (k+1)).flatMap ndC).toArray):=hD (by rw [nd_put _ m (by omega) bn,← hst])
  have HNB2:Hid (∀ b ∈ rowN o (k+1),NdB ((k+1:Nat):Int) b):=hD (fun b hb=>by
   rw [hst] at hb
   rcases List.mem_or_eq_of_mem_set hb with hb | rfl
   ·exact(HNB.out b hb).mono (by omega)
   ·have:=hhb.2
    rw [show((k+1:Nat):Int)=(k:Int)+1 by omega]
    exact this)
  have HOWN:=fun(W:World) (hW:ObAt W (.slice A1 o.atoms.length c1) (.slice A2 o.funs.length cf) (.slice A3 o.preds.length cp) (.slice (some ⟨bc,of,none⟩) o.code.length cc) o)=>own_any HOB.out hik W hW
  rw [hsv] at HOWN
  have HFOL:=fun(W:World)=>zu19 m (by omega) op a b c d W
  have HGR:=fun(W:World) (vL:Value) (hW:Box W gl 105 ((rowN o k).flatMap ndC).toArray) (hL:IntsV W vL (followV m (op,a,b,c,d)))=>zl14 (rowN o k) (by omega) (followV m (op,a,b,c,d)) (fun t ht=>by have:=hgo t ht;omega) (by omega) gl vL W hW hL
  rw [hRl,hmv] at HGR
  have HAND:∀ W:World,Calls Tryz.prog 57 #[.agg (ndA sv),.agg (ndA mv)] W fun e w'=>e=.returned (.agg (ndA bn))∧Below W.heap.size W w':=fun W=>by
   rw [hhead]
   have h1:=hhb.1
   rw [hmv] at h1
   rw [hsv] at hsb
   unfold NdB at h1 hsb
   exact and_any sv mv (by omega) (by omega) W
  have x3:=HXk.out.cell 3
  have i0:(0:Int)≤(m:Int):=by omega
  have i1:(m:Int)<(o.code.length:Int):=by omega
  have hwr:IntKind.i64.wrap ((m:Int) - 1)=(m:Int) - 1:=IntWalk.i64_in _ (by omega)
  have HBOWN:=hD HOWN
  have HBFOL:=hD HFOL
  have HBGR:=hD HGR
  have HBAND:=hD HAND
  clear hst hhb hhead hmv hsv hbn HOWN HFOL HGR HAND hsb hgo hik
  have hgsk:=HBk.out.size
  go_upto_region 6 with(fail)
  obtain⟨w5,hw5⟩:∃ w5,wr.alloc (.cells #[.int .i64 op,.int .i64 a,.int .i64 b,.int .i64 c,.int .i64 d] 65)=w5:=⟨_,rfl⟩
  obtain⟨gi,hgi⟩:∃ gi,wr.heap.size=gi:=⟨_,rfl⟩
  have HI0:=hD (Box.new wr 65 #[.int .i64 op,.int .i64 a,.int .i64 b,.int .i64 c,.int .i64 d])
  have HX0:=hD (HXk.out.alloc (.cells #[.int .i64 op,.int .i64 a,.int .i64 b,.int .i64 c,.int .i64 d] 65))
  have HR0:=hD (HRk.out.alloc (.cells #[.int .i64 op,.int .i64 a,.int .i64 b,.int .i64 c,.int .i64 d] 65))
  have HB0:=hD (HBk.out.alloc hgsk (.cells #[.int .i64 op,.int .i64 a,.int .i64 b,.int .i64 c,.int .i64 d] 65))
  rw [hw5] at HI0 HX0 HR0 HB0 ⊢
  have hgli:gl<gi:=by rw [← hgi];exact HRk.out.lt
  rw [hgi] at HI0 ⊢
  have HS0:=hD HB0.out.size
  have hgl:w.heap.size≤gl:=by omega
  clear hw5 hgi x3 e0 e1 e2 e3 e4 HRk HXk HBk
  refine wp_region_noPanic ?_
  refine zt 99 (fun w'=>w'.cell? ⟨g,0,none⟩=some (.slice A1 o.atoms.length c1)∧w'.cell? ⟨g,1,none⟩=some (.slice A2 o.funs.length cf)∧w'.cell? ⟨g,2,none⟩=some (.slice A3 o.preds.length cp)∧w'.cell? ⟨g,3,none⟩=some (.slice (some ⟨bc,of,none⟩) o.code.length cc)∧w'.cell? ⟨gi,0,none⟩=some (.int .i64 op)∧w'.cell? ⟨gi,1,none⟩=some (.int .i64 a)∧w'.cell? ⟨gi,2,none⟩=some (.int .i64 b)∧w'.cell? ⟨gi,3,none⟩=some (.int .i64 c)∧w'.cell? ⟨gi,4,none⟩=some (.int .i64 d)) (by kernel_rfl) ?_ (fun hHeld=>?_)
  ·exact⟨HX0.out.cell 0,HX0.out.cell 1,HX0.out.cell 2,HX0.out.cell 3,HI0.out.cell 0,HI0.out.cell 1,HI0.out.cell 2,HI0.out.cell 3,HI0.out.cell 4⟩
  change wpAnyT _ _ _ _ _ _ _ _ _ w5.drew
  replace hHeld:w5.drew.cell? ⟨g,0,none⟩=some (.slice A1 o.atoms.length c1)∧w5.drew.cell? ⟨g,1,none⟩=some (.slice A2 o.funs.length cf)∧w5.drew.cell? ⟨g,2,none⟩=some (.slice A3 o.preds.length cp)∧w5.drew.cell? ⟨g,3,none⟩=some (.slice (some ⟨bc,of,none⟩) o.code.length cc)∧w5.drew.cell? ⟨gi,0,none⟩=some (.int .i64 op)∧w5.drew.cell? ⟨gi,1,none⟩=some (.int .i64 a)∧w5.drew.cell? ⟨gi,2,none⟩=some (.int .i64 b)∧w5.drew.cell? ⟨gi,3,none⟩=some (.int .i64 c)∧w5.drew.cell? ⟨gi,4,none⟩=some (.int .i64 d):=hHeld
  have HX1:=hD HX0.out.drew
  have HI1:=hD HI0.out.drew
  have HR1:=hD HR0.out.drew
  have HB1:=hD (bel_dn HB0.out 1)
  change Hid (Below w.heap.size w w5.drew) at HB1
  have HS1:Hid (w.heap.size≤w5.drew.heap.size):=hD HS0.out
  generalize w5.drew=w6 at hHeld HX1 HI1 HR1 HB1 HS1 ⊢
  have st:Stp [0,1]:=trivial
  iterate 2
   refine tPL st (v:=?_) rfl ?_ ?_
   rotate_left
   ·(intro w hSw;(try dsimp only at hSw);go_simp;try with_reducible rfl)
   replace st:=st.tl
   try simp only [qA,qB,qC,Act.put,qD,qE,qF]
  have st:Stp [2,3]:=trivial
  iterate 2
   refine tSL st (v:=?_) rfl ?_ hHeld ?_
   rotate_left
   ·intro w hSw
    try dsimp only at hSw
    obtain⟨h1,h2,h3,h4,h5,h6,h7,h8,h9⟩:=hSw
    go_simp
    try with_reducible rfl
   replace st:=st.tl
   try simp only [qA,qB,qC,Act.put,qD,qE,qF]
  have st:Stp [5,6]:=trivial
  iterate 2
   refine tPL st (v:=?_) rfl ?_ ?_
   rotate_left
   ·(intro w hSw;(try dsimp only at hSw);go_simp;try with_reducible rfl)
   replace st:=st.tl
   try simp only [qA,qB,qC,Act.put,qD,qE,qF]
  refine tS (i:=7) (v:=?_) rfl ?_ hHeld ?_
  rotate_left
  ·intro w hSw
   try dsimp only at hSw
   obtain⟨h1,h2,h3,h4,h5,h6,h7,h8,h9⟩:=hSw
   go_simp
   try with_reducible rfl
  try simp only [qA,qB,qC,Act.put,qD,qE,qF]
  refine wT1 (i:=4) (by kernel_rfl) rfl fun K hK=>?_
  go_simp
  go_at_call 56;refine(HBOWN.out w6 (HV.out.below HB1.out)).mono ?_;rintro e3 w7 ⟨rfl,hb3⟩
  have HX2:=hD (HX1.out.below hb3 HX1.out.lt)
  have HI2:=hD (HI1.out.below hb3 HI1.out.lt)
  have HR2:=hD (HR1.out.below hb3 HR1.out.lt)
  have HB2:=hD (HB1.out.trans (hb3.mono HS1.out))
  have HS2:=hD (Nat.le_trans HS1.out hb3.size)
  clear hb3
  refine hK.out _ _ (fun _=>?_) (fun hHeld2=>?_)
  ·exact⟨HX2.out.cell 0,HX2.out.cell 1,HX2.out.cell 2,HX2.out.cell 3,HI2.out.cell 0,HI2.out.cell 1,HI2.out.cell 2,HI2.out.cell 3,HI2.out.cell 4⟩
  replace hHeld:=hHeld2 (by decide)
  clear hHeld2 hK K
  try simp only [qA,qB,qC,Act.put,qD,qE,qF]
  refine wT1 (i:=8) (by kernel_rfl) rfl fun K hK=>?_
  go_simp
  go_at_call 59;refine(HBFOL.out w7).mono ?_;rintro e3 w8 ⟨v8,rfl,hv8,hb3⟩
  obtain⟨A8,k8,hv8f⟩:=CellsAt.form hv8
  subst hv8f
  have HV8:=hD hv8
  have HX3:=hD (HX2.out.below hb3 HX2.out.lt)
  have HI3:=hD (HI2.out.below hb3 HI2.out.lt)
  have HR3:=hD (HR2.out.below hb3 HR2.out.lt)
  have HB3:=hD (HB2.out.trans (hb3.mono HS2.out))
  have HS3:=hD (Nat.le_trans HS2.out hb3.size)
  clear hb3 hv8
  refine hK.out _ _ (fun _=>?_) (fun hHeld2=>?_)
  ·exact⟨HX3.out.cell 0,HX3.out.cell 1,HX3.out.cell 2,HX3.out.cell 3,HI3.out.cell 0,HI3.out.cell 1,HI3.out.cell 2,HI3.out.cell 3,HI3.out.cell 4⟩
  replace hHeld:=hHeld2 (by decide)
  clear hHeld2 hK K
  try simp only [qA,qB,qC,Act.put,qD,qE,qF]
  refine wT1 (i:=9) (by kernel_rfl) rfl fun K hK=>?_
  go_simp
  go_at_call 58;refine(HBGR.out w8 _ HR3.out HV8.out).mono ?_;rintro e3 w9 ⟨rfl,hb3⟩
  have HX4:=hD (HX3.out.below hb3 HX3.out.lt)
  have HI4:=hD (HI3.out.below hb3 HI3.out.lt)
  have HR4:=hD (HR3.out.below hb3 HR3.out.lt)
  have HB4:=hD (HB3.out.trans (hb3.mono HS3.out))
  have HS4:=hD (Nat.le_trans HS3.out hb3.size)
  clear hb3
  refine hK.out _ _ (fun _=>?_) (fun hHeld2=>?_)
  ·exact⟨HX4.out.cell 0,HX4.out.cell 1,HX4.out.cell 2,HX4.out.cell 3,HI4.out.cell 0,HI4.out.cell 1,HI4.out.cell 2,HI4.out.cell 3,HI4.out.cell 4⟩
  replace hHeld:=hHeld2 (by decide)
  clear hHeld2 hK K
  try simp only [qA,qB,qC,Act.put,qD,qE,qF]
  refine wT1 (i:=10) (by kernel_rfl) rfl fun K hK=>?_
  go_simp
  go_at_call 57;refine(HBAND.out w9).mono ?_;rintro e3 w10 ⟨rfl,hb3⟩
  have HX5:=hD (HX4.out.below hb3 HX4.out.lt)
  have HI5:=hD (HI4.out.below hb3 HI4.out.lt)
  have HR5:=hD (HR4.out.below hb3 HR4.out.lt)
  have HB5:=hD (HB4.out.trans (hb3.mono HS4.out))
  have HS5:=hD (Nat.le_trans HS4.out hb3.size)
  clear hb3
  refine hK.out _ _ (fun _=>?_) (fun hHeld2=>?_)
  ·exact⟨HX5.out.cell 0,HX5.out.cell 1,HX5.out.cell 2,HX5.out.cell 3,HI5.out.cell 0,HI5.out.cell 1,HI5.out.cell 2,HI5.out.cell 3,HI5.out.cell 4⟩
  replace hHeld:=hHeld2 (by decide)
  clear hHeld2 hK K
  try simp only [qA,qB,qC,Act.put,qD,qE,qF]
  refine tP (i:=11) (v:=?_) rfl ?_ ?_
  rotate_left
  ·(intro w hSw;(try dsimp only at hSw);go_simp;try with_reducible rfl)
  try simp only [qA,qB,qC,Act.put,qD,qE,qF]
  refine wT1 (i:=12) (by kernel_rfl) rfl fun K hK=>?_
  rw [if_pos (by kernel_rfl)]
  refine wp_store_mid 105 (.tmp 33) (.tmp 32) rfl gl (m * 3) (ndA bn) rfl rfl (zf2 HR5.out (by rw [hRl];omega)) zc13 (ze1 _) ?_
  have HRN:=hD (HR5.out.setCells (ndA bn).toList w10 _ (m * 3))
  rw [HPUT.out] at HRN
  have HBN:=hD (zt1 (ndA bn).toList _ _ (m * 3) HB5.out hgl)
  have HXN:=hD (Box.setCells_far (k:=gl) (by omega) (ndA bn).toList _ _ (m * 3) HX5.out)
  have HIN:=hD (Box.setCells_far (k:=gl) (by omega) (ndA bn).toList _ _ (m * 3) HI5.out)
  refine hK.out _ _ (fun _=>?_) (fun hHeld2=>?_)
  ·exact⟨HXN.out.cell 0,HXN.out.cell 1,HXN.out.cell 2,HXN.out.cell 3,HIN.out.cell 0,HIN.out.cell 1,HIN.out.cell 2,HIN.out.cell 3,HIN.out.cell 4⟩
  clear hHeld2 hK K
  try simp only [qA,qB,qC,Act.put,qD,qE,qF]
  refine zn (by kernel_rfl) (NoPanic.normal ?_) _
  go_wp2
  go_roundw
  case rel=>exact⟨k+1,by omega,by go_num,HRN,HXN,HBN,HNB2⟩
  case measure=>simp [intOf]
 case neg=>
 obtain rfl:k=o.code.length:=by omega
 subst hnv
 have HRE:Hid (CellsAt wr (.slice (some ⟨gl,0,none⟩) o.code.length o.code.length) o.code.length ((needsV o o.code.length).flatMap ndC)):=hD (by
  have h:=HRk.out
  unfold rowN at h
  rw [Nat.sub_self,List.replicate_zero,List.nil_append] at h
  exact .inr ⟨gl,0,_,rfl,h.lt,fun j u hj=>by rw [Nat.zero_add,h.cell j,List.getElem?_toArray];exact hj⟩)
 have HFR:Hid (∀ k,(Value.slice (some ⟨gl,0,none⟩) o.code.length o.code.length).ownBlock=some k→w.heap.size≤k):=hD (fun k hk=>by
  have e:gl=k:=by simpa [Value.ownBlock] using hk
  omega)
 have i1:¬ (0:Int)≤(o.code.length:Int) - o.code.length - 1:=by omega
 go_wp2
 go_ret
 exact⟨_,rfl,HRE.out,fun k hk=>by have h1:=HFR.out k hk;omega,by first | exact HBk.out | (rw [← hg];exact HBk.out)⟩
end Go.Proofs.YtlmbiafloiompaaGreatDoor
