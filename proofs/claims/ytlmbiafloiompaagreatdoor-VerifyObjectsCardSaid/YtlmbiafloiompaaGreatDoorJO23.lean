/-
 The document's step (layer 11): instructions 17,18,20. Conditions: an object that may be,an instruction of it,no parts to come,another way where it is asked.
-/
import Derived.Test.YtlmbiafloiompaaGreatDoorJO12
import Derived.Shelf.Abstract
set_option linter.unusedVariables false
set_option linter.unusedSimpArgs false
namespace Go.Proofs.YtlmbiafloiompaaGreatDoor
open Go Go.RowKit
set_option maxRecDepth 100000
set_option maxHeartbeats 8000000 in
theorem rstep_FD {o:Ob} (ho:ObK o) {op a b c d:Int} (hi:InsK o (op,a,b,c,d)) (hK:op=17 ∨ op=18 ∨ op=20) (own:Int) (hown:0≤own∧own<(o.preds.length:Int)) {s:VSt} (hs:StOk s) (hl:s.left=0) {al:Bool} (ha:s.alt=al) (hal:al=(decide (op=21) || decide (op=22))) {va vf vp vc:Value} (w:World) (hv:ObAt w va vf vp vc o) :
  Calls Tryz.prog 32 #[.agg #[va,vf,vp,vc],.int .i64 own,.agg #[.int .i64 op,.int .i64 a,.int .i64 b,.int .i64 c,.int .i64 d],.agg (stA s)] w (StepD o own (op,a,b,c,d) s w):=by
 obtain⟨A1,c1,rfl⟩:=CellsAt.form hv.atoms
 obtain⟨A2,cf,rfl⟩:=CellsAt.form hv.funs
 obtain⟨A3,cp,rfl⟩:=CellsAt.form hv.preds
 obtain⟨A4,c4,rfl⟩:=CellsAt.form hv.code
 have HV:=hD hv
 have HSs:=hD hs
 have HPA:=hD (fun W h=>zk5 (o:=o) (op:=op) (a:=a) (b:=b) (c:=c) (d:=d) (fun h=>hi.fa h) W (va:=.slice A1 o.atoms.length c1) (vf:=.slice A2 o.funs.length cf) (vp:=.slice A3 o.preds.length cp) (vc:=.slice A4 o.code.length c4) h)
 have HS0:=hD (SdW.start w #[.slice A1 o.atoms.length c1,.slice A2 o.funs.length cf,.slice A3 o.preds.length cp,.slice A4 o.code.length c4] #[.int .i64 op,.int .i64 a,.int .i64 b,.int .i64 c,.int .i64 d] (stA s) zeroA)
 have HZE:=hD zE
 have HZS:Hid (zeroA.size=21):=hD rfl
 generalize zeroA=O at HS0 HZE HZS
 have HRR:=hD (zb5 (o:=o) (ar:=arityP o own) (op:=op) (a:=a) (b:=b) (c:=c) (d:=d) (s:=s) (ha.trans hal) (by rcases hK with rfl | rfl | rfl <;> rfl) hl)
 clear hv
 go_enter Tryz.func32,Tryz.ntmps32
 go_upto_region 1 with(fail)
 rw [← HZE.out]
 obtain⟨w1,hw1⟩:∃ w1,(((w.alloc (.cells #[.slice A1 o.atoms.length c1,.slice A2 o.funs.length cf,.slice A3 o.preds.length cp,.slice A4 o.code.length c4] 27)).alloc (.cells #[.int .i64 op,.int .i64 a,.int .i64 b,.int .i64 c,.int .i64 d] 54)).alloc (.cells (stA s) 95)).alloc (.cells O 95)=w1:=⟨_,rfl⟩
 obtain⟨g,hg⟩:∃ g,w.heap.size=g:=⟨_,rfl⟩
 rw [hw1] at HS0 ⊢
 rw [hg] at HS0 ⊢
 clear hw1 HZE hg
 obtain⟨i0,i1,i2,-⟩:=HS0.out.rl
 go_quiet (fail)
 have HS:=hD (HS0.out.drewN nq)
 obtain⟨w2,hw2⟩:∃ w2,w1.drewN nq=w2:=⟨_,rfl⟩
 rw [hw2] at HS ⊢
 clear hw2 HS0 i0 i1 i2
 obtain⟨i0,i1,i2,i3,i4,q0,q1,q2,q3⟩:=HS.out.rl
 obtain⟨x0,x1,x18,x19,x20⟩:=HS.out.xl HSs.out
 rw [hl] at x18
 rw [ha] at x19
 obtain rfl | rfl | rfl:=hK
 ·obtain rfl:al=false:=hal.trans (by decide)
  clear hal
  as_aux_lemma=>
   go_upto_region 47 with(fail)
   obtain⟨hp0,hp1⟩:=hi.pa (by simp)
   simp only at hp0 hp1
   obtain⟨ak,rfl⟩:∃ ak:Nat,a=(ak:Int):=⟨a.toNat,by omega⟩
   have hak:ak<o.preds.length:=by omega
   obtain⟨bp,of,rfl,hbp,_,hc5,_⟩:=zd1 HV.out.preds ak hak
   have har2:arityP o (ak:Int)=o.preds[ak].2.1:=by
    unfold arityP
    rw [Int.toNat_natCast,List.getD_eq_getElem?_getD,List.getElem?_eq_getElem hak]
    rfl
   have haps:=zg2 ho (ak:Int)
   rw [har2] at haps
   have HCV:=hD (fun w=>zw5 hs o.preds[ak].2.1.toNat (by omega) w)
   have har3:((o.preds[ak].2.1.toNat:Nat):Int)=o.preds[ak].2.1:=by omega
   rw [har3] at HCV
   have c5:=(HS.out.below.cell (p:=⟨bp,of+ak * 3+1,none⟩) hbp).trans hc5
   have i2':(ak:Int)<(o.preds.length:Int):=by omega
   have i3':(0:Int)≤(ak:Int):=by omega
   have HR0:Hid (asksV o (arityP o own) (17,(ak:Int),b,c,d) s=(decide (0≤s.env) && coverV s o.preds[ak].2.1)):=hD (by rw [HRR.out,← har2];rfl)
   clear har2 har3 haps hc5
   generalize coverV s o.preds[ak].2.1=q at HCV HR0
   generalize o.preds[ak].2.1=ap at HCV c5
   have HSZ:=hD (zh HSs.out)
   obtain⟨A,hA⟩:∃ A,stA s=A:=⟨_,rfl⟩
   have HAE:=hD hA
   rw [hA] at HS HSZ HCV
   clear hA
   generalize s.env=en_ at HR0 x1
   by_cases hen:0≤en_
   ·have HR:Hid (asksV o (arityP o own) (17,(ak:Int),b,c,d) s=q):=hD (by rw [HR0.out,decide_eq_true hen,Bool.true_and])
    go_upto_region 47 with(fail)
    refine wp_region_noPanic ?_
    refine zt 99 (fun w'=>w'.cell? ⟨g+1+1,1,none⟩=some (.int .i64 en_)∧w'.rangeAt (g+1+1) 0 A.toList∧w'.cell? ⟨g,2,none⟩=some (.slice (some ⟨bp,of,none⟩) o.preds.length cp)∧w'.cell? ⟨bp,of+ak * 3+1,none⟩=some (.int .i64 ap)) (by kernel_rfl) ?_ (fun hHeld=>?_)
    ·exact⟨x1,(World.rangeAt_drew _ _ _ _).2 (zj HS.out.st),q2,c5⟩
    change wpAnyT _ _ _ _ _ _ _ _ _ w2.drew
    have HS:=hD (HS.out.drewN 1)
    change Hid (SdW w g _ _ _ _ w2.drew) at HS
    replace hHeld:w2.drew.cell? ⟨g+1+1,1,none⟩=some (.int .i64 en_)∧w2.drew.rangeAt (g+1+1) 0 A.toList∧w2.drew.cell? ⟨g,2,none⟩=some (.slice (some ⟨bp,of,none⟩) o.preds.length cp)∧w2.drew.cell? ⟨bp,of+ak * 3+1,none⟩=some (.int .i64 ap):=hHeld
    generalize w2.drew=w3 at HS hHeld ⊢
    have st:Stp [0,1,2,3]:=trivial
    iterate 4
     refine tkL st (v:=?_) rfl (fun _ _ _ h=>h) (Or.inl ⟨by kernel_rfl,?_⟩) hHeld ?_
     rotate_left
     ·intro w hSw
      try dsimp only at hSw
      obtain⟨h1,h2,h3,h4⟩:=hSw
      go_simp
      try with_reducible rfl
     replace st:=st.tl
     try simp only [qA,qB,qC,Act.put,qD,qE,qF]
    refine tkS (i:=4) (v:=.agg A) rfl (fun _ _ _ h=>h) (zl1 zb2 zg1 (by kernel_rfl) (.tmp 7) rfl (g+1+1) 0 rfl A HSZ.out (fun w hSw=>hSw.2.1)) hHeld ?_
    try simp only [qA,qB,qC,Act.put,qD,qE,qF]
    have st:Stp [5,6,7,8,9,10]:=trivial
    iterate 6
     refine tkL st (v:=?_) rfl (fun _ _ _ h=>h) (Or.inl ⟨by kernel_rfl,?_⟩) hHeld ?_
     rotate_left
     ·intro w hSw
      try dsimp only at hSw
      obtain⟨h1,h2,h3,h4⟩:=hSw
      go_simp
      try with_reducible rfl
     replace st:=st.tl
     try simp only [qA,qB,qC,Act.put,qD,qE,qF]
    refine wT1 (i:=11) (by kernel_rfl) rfl fun K hK=>?_
    refine zp (vs:=#[.agg A,.int .i64 ap]) (by kernel_rfl) (enters_of Tryz.func69 (by kernel_rfl) rfl) _ rfl (by kernel_rfl) ?_
    refine(HCV.out w3).mono ?_
    rintro e1 w4 ⟨rfl,hb4⟩
    refine⟨_,rfl,?_⟩
    refine hK.out _ _ (fun _=>?_) (fun hHeld2=>?_)
    ·exact⟨(hb4.cell (p:=⟨g+1+1,1,none⟩) (World.block_lt_of_cell? w3 _ hHeld.1)).trans hHeld.1,zj (HS.out.up hb4).st,(hb4.cell (p:=⟨g,2,none⟩) (World.block_lt_of_cell? w3 _ hHeld.2.2.1)).trans hHeld.2.2.1,(hb4.cell (p:=⟨bp,of+ak * 3+1,none⟩) (World.block_lt_of_cell? w3 _ hHeld.2.2.2)).trans hHeld.2.2.2⟩
    clear hK K hHeld2
    try simp only [qA,qB,qC,Act.put,qD,qE,qF]
    have st:Stp [12,13]:=trivial
    iterate 2
     refine tPL st (v:=?_) rfl ?_ ?_
     rotate_left
     ·(intro w hSw;(try dsimp only at hSw);go_simp;try with_reducible rfl)
     replace st:=st.tl
     try simp only [qA,qB,qC,Act.put,qD,qE,qF]
    refine zn (by kernel_rfl) (NoPanic.normal ?_) _
    have HS:=hD (HS.out.up hb4)
    clear hb4 hHeld
    rw [← HAE.out] at HS
    clear HSZ x0 x1 x18 x19 x20 i0 i1 i2 i3 i4 q0 q1 q2 q3 c5
    obtain⟨i0,i1,i2,i3,i4,q0,q1,q2,q3⟩:=HS.out.rl
    have x0:=(HS.out.xl HSs.out).1
    have x20:=(HS.out.xl HSs.out).2.2.2.2
    go_upto_region 48 with(fail)
    have z0:=HS.out.st.frozen 0
    have z20:=HS.out.st.frozen 20
    have HS:=hD ((HS.out.set 0 (.int .u32 0)).set 20 (.bool false))
    rw [show(stA s).setIfInBounds 0 (.int .u32 0)=stA { s with x:=0 } from rfl,← zo3 (s:={ s with x:=0 }) ⟨HSs.out.y,by show(0:Nat)<2 ^ 16;decide⟩ false] at HS
    have HSs:Hid (StOk { { s with x:=0 } with neck:=false }):=hD ⟨HSs.out.y,by show(0:Nat)<2 ^ 16;decide⟩
    go_upto_region 68 with(fail)
    obtain⟨C,HC,HSZ,H1⟩:=genS HSs
    rw [HC.out] at HS
    go_upto_region 71 with(first | (go_at_call 70;refine(HPA.out _ (HV.out.below HS.out.below)).mono ?_;rintro e1 w5 ⟨rfl,hb5⟩;have HS:=upS HS hb5;clear hb5;obtain⟨i0,i1,i2,i3,i4,q0,q1,q2,q3⟩:=HS.out.rl))
    go_wp2_with (first | (refine ldS HS HSZ rfl (.tmp 7) rfl rfl ?_) | (refine stS HS HZS HSZ H1 rfl (.tmp 8) (.tmp 296) rfl rfl rfl ?_))
    exact finD HS HZS HSZ HSs HC HR rfl rfl rfl rfl fun _=>rfl
   ·have HR:Hid (asksV o (arityP o own) (17,(ak:Int),b,c,d) s=false):=hD (by rw [HR0.out,decide_eq_false hen,Bool.false_and])
    go_upto_region 47 with(fail)
    go_quiet (fail)
    have HS:=hD (HS.out.drewN nq)
    obtain⟨w9,hw9⟩:∃ w9,w2.drewN nq=w9:=⟨_,rfl⟩
    rw [hw9] at HS ⊢
    clear hw9
    rw [← HAE.out] at HS
    clear HSZ x0 x1 x18 x19 x20 i0 i1 i2 i3 i4 q0 q1 q2 q3 c5
    obtain⟨i0,i1,i2,i3,i4,q0,q1,q2,q3⟩:=HS.out.rl
    have x0:=(HS.out.xl HSs.out).1
    have x20:=(HS.out.xl HSs.out).2.2.2.2
    go_upto_region 48 with(fail)
    have z0:=HS.out.st.frozen 0
    have z20:=HS.out.st.frozen 20
    have HS:=hD ((HS.out.set 0 (.int .u32 0)).set 20 (.bool false))
    rw [show(stA s).setIfInBounds 0 (.int .u32 0)=stA { s with x:=0 } from rfl,← zo3 (s:={ s with x:=0 }) ⟨HSs.out.y,by show(0:Nat)<2 ^ 16;decide⟩ false] at HS
    have HSs:Hid (StOk { { s with x:=0 } with neck:=false }):=hD ⟨HSs.out.y,by show(0:Nat)<2 ^ 16;decide⟩
    go_upto_region 68 with(fail)
    obtain⟨C,HC,HSZ,H1⟩:=genS HSs
    rw [HC.out] at HS
    go_upto_region 71 with(first | (go_at_call 70;refine(HPA.out _ (HV.out.below HS.out.below)).mono ?_;rintro e1 w5 ⟨rfl,hb5⟩;have HS:=upS HS hb5;clear hb5;obtain⟨i0,i1,i2,i3,i4,q0,q1,q2,q3⟩:=HS.out.rl))
    go_wp2_with (first | (refine ldS HS HSZ rfl (.tmp 7) rfl rfl ?_) | (refine stS HS HZS HSZ H1 rfl (.tmp 8) (.tmp 296) rfl rfl rfl ?_))
    exact finD HS HZS HSZ HSs HC HR rfl rfl rfl rfl fun _=>rfl
 ·obtain rfl:al=false:=hal.trans (by decide)
  clear hal
  as_aux_lemma=>
   go_upto_region 50 with(fail)
   obtain⟨hp0,hp1⟩:=hi.pa (by simp)
   simp only at hp0 hp1
   obtain⟨ak,rfl⟩:∃ ak:Nat,a=(ak:Int):=⟨a.toNat,by omega⟩
   have hak:ak<o.preds.length:=by omega
   obtain⟨bp,of,rfl,hbp,_,hc5,_⟩:=zd1 HV.out.preds ak hak
   have har2:arityP o (ak:Int)=o.preds[ak].2.1:=by
    unfold arityP
    rw [Int.toNat_natCast,List.getD_eq_getElem?_getD,List.getElem?_eq_getElem hak]
    rfl
   have haps:=zg2 ho (ak:Int)
   rw [har2] at haps
   have HCV:=hD (fun w=>zw5 hs o.preds[ak].2.1.toNat (by omega) w)
   have har3:((o.preds[ak].2.1.toNat:Nat):Int)=o.preds[ak].2.1:=by omega
   rw [har3] at HCV
   have c5:=(HS.out.below.cell (p:=⟨bp,of+ak * 3+1,none⟩) hbp).trans hc5
   have i2':(ak:Int)<(o.preds.length:Int):=by omega
   have i3':(0:Int)≤(ak:Int):=by omega
   have HR0:Hid (asksV o (arityP o own) (18,(ak:Int),b,c,d) s=(decide (s.env<0) && coverV s o.preds[ak].2.1)):=hD (by rw [HRR.out,← har2];rfl)
   clear har2 har3 haps hc5
   generalize coverV s o.preds[ak].2.1=q at HCV HR0
   generalize o.preds[ak].2.1=ap at HCV c5
   have HSZ:=hD (zh HSs.out)
   obtain⟨A,hA⟩:∃ A,stA s=A:=⟨_,rfl⟩
   have HAE:=hD hA
   rw [hA] at HS HSZ HCV
   clear hA
   generalize s.env=en_ at HR0 x1
   by_cases hen:en_<0
   ·have HR:Hid (asksV o (arityP o own) (18,(ak:Int),b,c,d) s=q):=hD (by rw [HR0.out,decide_eq_true hen,Bool.true_and])
    go_upto_region 50 with(fail)
    refine wp_region_noPanic ?_
    refine zt 99 (fun w'=>w'.cell? ⟨g+1+1,1,none⟩=some (.int .i64 en_)∧w'.rangeAt (g+1+1) 0 A.toList∧w'.cell? ⟨g,2,none⟩=some (.slice (some ⟨bp,of,none⟩) o.preds.length cp)∧w'.cell? ⟨bp,of+ak * 3+1,none⟩=some (.int .i64 ap)) (by kernel_rfl) ?_ (fun hHeld=>?_)
    ·exact⟨x1,(World.rangeAt_drew _ _ _ _).2 (zj HS.out.st),q2,c5⟩
    change wpAnyT _ _ _ _ _ _ _ _ _ w2.drew
    have HS:=hD (HS.out.drewN 1)
    change Hid (SdW w g _ _ _ _ w2.drew) at HS
    replace hHeld:w2.drew.cell? ⟨g+1+1,1,none⟩=some (.int .i64 en_)∧w2.drew.rangeAt (g+1+1) 0 A.toList∧w2.drew.cell? ⟨g,2,none⟩=some (.slice (some ⟨bp,of,none⟩) o.preds.length cp)∧w2.drew.cell? ⟨bp,of+ak * 3+1,none⟩=some (.int .i64 ap):=hHeld
    generalize w2.drew=w3 at HS hHeld ⊢
    have st:Stp [0,1,2,3]:=trivial
    iterate 4
     refine tkL st (v:=?_) rfl (fun _ _ _ h=>h) (Or.inl ⟨by kernel_rfl,?_⟩) hHeld ?_
     rotate_left
     ·intro w hSw
      try dsimp only at hSw
      obtain⟨h1,h2,h3,h4⟩:=hSw
      go_simp
      try with_reducible rfl
     replace st:=st.tl
     try simp only [qA,qB,qC,Act.put,qD,qE,qF]
    refine tkS (i:=4) (v:=.agg A) rfl (fun _ _ _ h=>h) (zl1 zb2 zg1 (by kernel_rfl) (.tmp 7) rfl (g+1+1) 0 rfl A HSZ.out (fun w hSw=>hSw.2.1)) hHeld ?_
    try simp only [qA,qB,qC,Act.put,qD,qE,qF]
    have st:Stp [5,6,7,8,9,10]:=trivial
    iterate 6
     refine tkL st (v:=?_) rfl (fun _ _ _ h=>h) (Or.inl ⟨by kernel_rfl,?_⟩) hHeld ?_
     rotate_left
     ·intro w hSw
      try dsimp only at hSw
      obtain⟨h1,h2,h3,h4⟩:=hSw
      go_simp
      try with_reducible rfl
     replace st:=st.tl
     try simp only [qA,qB,qC,Act.put,qD,qE,qF]
    refine wT1 (i:=11) (by kernel_rfl) rfl fun K hK=>?_
    refine zp (vs:=#[.agg A,.int .i64 ap]) (by kernel_rfl) (enters_of Tryz.func69 (by kernel_rfl) rfl) _ rfl (by kernel_rfl) ?_
    refine(HCV.out w3).mono ?_
    rintro e1 w4 ⟨rfl,hb4⟩
    refine⟨_,rfl,?_⟩
    refine hK.out _ _ (fun _=>?_) (fun hHeld2=>?_)
    ·exact⟨(hb4.cell (p:=⟨g+1+1,1,none⟩) (World.block_lt_of_cell? w3 _ hHeld.1)).trans hHeld.1,zj (HS.out.up hb4).st,(hb4.cell (p:=⟨g,2,none⟩) (World.block_lt_of_cell? w3 _ hHeld.2.2.1)).trans hHeld.2.2.1,(hb4.cell (p:=⟨bp,of+ak * 3+1,none⟩) (World.block_lt_of_cell? w3 _ hHeld.2.2.2)).trans hHeld.2.2.2⟩
    clear hK K hHeld2
    try simp only [qA,qB,qC,Act.put,qD,qE,qF]
    have st:Stp [12,13]:=trivial
    iterate 2
     refine tPL st (v:=?_) rfl ?_ ?_
     rotate_left
     ·(intro w hSw;(try dsimp only at hSw);go_simp;try with_reducible rfl)
     replace st:=st.tl
     try simp only [qA,qB,qC,Act.put,qD,qE,qF]
    refine zn (by kernel_rfl) (NoPanic.normal ?_) _
    have HS:=hD (HS.out.up hb4)
    clear hb4 hHeld
    rw [← HAE.out] at HS
    clear HSZ x0 x1 x18 x19 x20 i0 i1 i2 i3 i4 q0 q1 q2 q3 c5
    obtain⟨i0,i1,i2,i3,i4,q0,q1,q2,q3⟩:=HS.out.rl
    have x0:=(HS.out.xl HSs.out).1
    have x20:=(HS.out.xl HSs.out).2.2.2.2
    go_upto_region 68 with(fail)
    obtain⟨C,HC,HSZ,H1⟩:=genS HSs
    rw [HC.out] at HS
    go_upto_region 71 with(first | (go_at_call 70;refine(HPA.out _ (HV.out.below HS.out.below)).mono ?_;rintro e1 w5 ⟨rfl,hb5⟩;have HS:=upS HS hb5;clear hb5;obtain⟨i0,i1,i2,i3,i4,q0,q1,q2,q3⟩:=HS.out.rl))
    go_wp2_with (first | (refine ldS HS HSZ rfl (.tmp 7) rfl rfl ?_) | (refine stS HS HZS HSZ H1 rfl (.tmp 8) (.tmp 296) rfl rfl rfl ?_))
    exact finD HS HZS HSZ HSs HC HR rfl rfl rfl rfl fun _=>rfl
   ·have HR:Hid (asksV o (arityP o own) (18,(ak:Int),b,c,d) s=false):=hD (by rw [HR0.out,decide_eq_false hen,Bool.false_and])
    go_upto_region 50 with(fail)
    go_quiet (fail)
    have HS:=hD (HS.out.drewN nq)
    obtain⟨w9,hw9⟩:∃ w9,w2.drewN nq=w9:=⟨_,rfl⟩
    rw [hw9] at HS ⊢
    clear hw9
    rw [← HAE.out] at HS
    clear HSZ x0 x1 x18 x19 x20 i0 i1 i2 i3 i4 q0 q1 q2 q3 c5
    obtain⟨i0,i1,i2,i3,i4,q0,q1,q2,q3⟩:=HS.out.rl
    have x0:=(HS.out.xl HSs.out).1
    have x20:=(HS.out.xl HSs.out).2.2.2.2
    go_upto_region 68 with(fail)
    obtain⟨C,HC,HSZ,H1⟩:=genS HSs
    rw [HC.out] at HS
    go_upto_region 71 with(first | (go_at_call 70;refine(HPA.out _ (HV.out.below HS.out.below)).mono ?_;rintro e1 w5 ⟨rfl,hb5⟩;have HS:=upS HS hb5;clear hb5;obtain⟨i0,i1,i2,i3,i4,q0,q1,q2,q3⟩:=HS.out.rl))
    go_wp2_with (first | (refine ldS HS HSZ rfl (.tmp 7) rfl rfl ?_) | (refine stS HS HZS HSZ H1 rfl (.tmp 8) (.tmp 296) rfl rfl rfl ?_))
    exact finD HS HZS HSZ HSs HC HR rfl rfl rfl rfl fun _=>rfl
 ·obtain rfl:al=false:=hal.trans (by decide)
  clear hal
  as_aux_lemma=>
   go_upto_region 54 with(fail)
   obtain⟨hp0,hp1⟩:=hown
   obtain⟨ak,rfl⟩:∃ ak:Nat,own=(ak:Int):=⟨own.toNat,by omega⟩
   have hak:ak<o.preds.length:=by omega
   obtain⟨bp,of,rfl,hbp,_,hc5,_⟩:=zd1 HV.out.preds ak hak
   have har2:arityP o (ak:Int)=o.preds[ak].2.1:=by
    unfold arityP
    rw [Int.toNat_natCast,List.getD_eq_getElem?_getD,List.getElem?_eq_getElem hak]
    rfl
   have haps:=zg2 ho (ak:Int)
   rw [har2] at haps
   have HCV:=hD (fun w=>zw5 hs o.preds[ak].2.1.toNat (by omega) w)
   have har3:((o.preds[ak].2.1.toNat:Nat):Int)=o.preds[ak].2.1:=by omega
   rw [har3] at HCV
   have c5:=(HS.out.below.cell (p:=⟨bp,of+ak * 3+1,none⟩) hbp).trans hc5
   have i2':(ak:Int)<(o.preds.length:Int):=by omega
   have i3':(0:Int)≤(ak:Int):=by omega
   have HR0:Hid (asksV o (arityP o (ak:Int)) (20,a,b,c,d) s=(decide (s.env<0) && s.neck && coverV s o.preds[ak].2.1)):=hD (by rw [HRR.out,← har2];rfl)
   clear har2 har3 haps hc5
   generalize coverV s o.preds[ak].2.1=q at HCV HR0
   generalize o.preds[ak].2.1=ap at HCV c5
   have HSZ:=hD (zh HSs.out)
   obtain⟨A,hA⟩:∃ A,stA s=A:=⟨_,rfl⟩
   have HAE:=hD hA
   rw [hA] at HS HSZ HCV
   clear hA
   generalize s.env=en_ at HR0 x1
   generalize s.neck=nk at HR0 x20
   by_cases hen:en_<0
   ·cases nk with
    | false=>
     have HR:Hid (asksV o (arityP o (ak:Int)) (20,a,b,c,d) s=false):=hD (by rw [HR0.out,Bool.and_false,Bool.false_and])
     go_upto_region 54 with(fail)
     go_quiet (fail)
     have HS:=hD (HS.out.drewN nq)
     obtain⟨w9,hw9⟩:∃ w9,w2.drewN nq=w9:=⟨_,rfl⟩
     rw [hw9] at HS ⊢
     clear hw9
     rw [← HAE.out] at HS
     clear HSZ x0 x1 x18 x19 x20 i0 i1 i2 i3 i4 q0 q1 q2 q3 c5
     obtain⟨i0,i1,i2,i3,i4,q0,q1,q2,q3⟩:=HS.out.rl
     go_upto_region 68 with(fail)
     obtain⟨C,HC,HSZ,H1⟩:=genS HSs
     rw [HC.out] at HS
     go_upto_region 71 with(first | (go_at_call 70;refine(HPA.out _ (HV.out.below HS.out.below)).mono ?_;rintro e1 w5 ⟨rfl,hb5⟩;have HS:=upS HS hb5;clear hb5;obtain⟨i0,i1,i2,i3,i4,q0,q1,q2,q3⟩:=HS.out.rl))
     go_wp2_with (first | (refine ldS HS HSZ rfl (.tmp 7) rfl rfl ?_) | (refine stS HS HZS HSZ H1 rfl (.tmp 8) (.tmp 296) rfl rfl rfl ?_))
     exact finN HS HZS HSZ HSs HC HR rfl rfl rfl rfl
    | true=>
     have HR:Hid (asksV o (arityP o (ak:Int)) (20,a,b,c,d) s=q):=hD (by rw [HR0.out,decide_eq_true hen,Bool.true_and,Bool.true_and])
     go_upto_region 54 with(fail)
     refine wp_region_noPanic ?_
     refine zt 99 (fun w'=>w'.cell? ⟨g+1+1,1,none⟩=some (.int .i64 en_)∧w'.rangeAt (g+1+1) 0 A.toList∧w'.cell? ⟨g,2,none⟩=some (.slice (some ⟨bp,of,none⟩) o.preds.length cp)∧w'.cell? ⟨bp,of+ak * 3+1,none⟩=some (.int .i64 ap)∧w'.cell? ⟨g+1+1,20,none⟩=some (.bool true)) (by kernel_rfl) ?_ (fun hHeld=>?_)
     ·exact⟨x1,(World.rangeAt_drew _ _ _ _).2 (zj HS.out.st),q2,c5,x20⟩
     change wpAnyT _ _ _ _ _ _ _ _ _ w2.drew
     have HS:=hD (HS.out.drewN 1)
     change Hid (SdW w g _ _ _ _ w2.drew) at HS
     replace hHeld:w2.drew.cell? ⟨g+1+1,1,none⟩=some (.int .i64 en_)∧w2.drew.rangeAt (g+1+1) 0 A.toList∧w2.drew.cell? ⟨g,2,none⟩=some (.slice (some ⟨bp,of,none⟩) o.preds.length cp)∧w2.drew.cell? ⟨bp,of+ak * 3+1,none⟩=some (.int .i64 ap)∧w2.drew.cell? ⟨g+1+1,20,none⟩=some (.bool true):=hHeld
     generalize w2.drew=w3 at HS hHeld ⊢
     have st:Stp [0,1,2,3,4,5,6,7]:=trivial
     iterate 8
      refine tkL st (v:=?_) rfl (fun _ _ _ h=>h) (Or.inl ⟨by kernel_rfl,?_⟩) hHeld ?_
      rotate_left
      ·intro w hSw
       try dsimp only at hSw
       obtain⟨h1,h2,h3,h4,h5⟩:=hSw
       go_simp
       try with_reducible rfl
      replace st:=st.tl
      try simp only [qA,qB,qC,Act.put,qD,qE,qF]
     refine tkS (i:=8) (v:=.agg A) rfl (fun _ _ _ h=>h) (zl1 zb2 zg1 (by kernel_rfl) (.tmp 7) rfl (g+1+1) 0 rfl A HSZ.out (fun w hSw=>hSw.2.1)) hHeld ?_
     try simp only [qA,qB,qC,Act.put,qD,qE,qF]
     have st:Stp [9,10,11,12,13,14]:=trivial
     iterate 6
      refine tkL st (v:=?_) rfl (fun _ _ _ h=>h) (Or.inl ⟨by kernel_rfl,?_⟩) hHeld ?_
      rotate_left
      ·intro w hSw
       try dsimp only at hSw
       obtain⟨h1,h2,h3,h4,h5⟩:=hSw
       go_simp
       try with_reducible rfl
      replace st:=st.tl
      try simp only [qA,qB,qC,Act.put,qD,qE,qF]
     refine wT1 (i:=15) (by kernel_rfl) rfl fun K hK=>?_
     refine zp (vs:=#[.agg A,.int .i64 ap]) (by kernel_rfl) (enters_of Tryz.func69 (by kernel_rfl) rfl) _ rfl (by kernel_rfl) ?_
     refine(HCV.out w3).mono ?_
     rintro e1 w4 ⟨rfl,hb4⟩
     refine⟨_,rfl,?_⟩
     refine hK.out _ _ (fun _=>?_) (fun hHeld2=>?_)
     ·exact⟨(hb4.cell (p:=⟨g+1+1,1,none⟩) (World.block_lt_of_cell? w3 _ hHeld.1)).trans hHeld.1,zj (HS.out.up hb4).st,(hb4.cell (p:=⟨g,2,none⟩) (World.block_lt_of_cell? w3 _ hHeld.2.2.1)).trans hHeld.2.2.1,(hb4.cell (p:=⟨bp,of+ak * 3+1,none⟩) (World.block_lt_of_cell? w3 _ hHeld.2.2.2.1)).trans hHeld.2.2.2.1,(hb4.cell (p:=⟨g+1+1,20,none⟩) (World.block_lt_of_cell? w3 _ hHeld.2.2.2.2)).trans hHeld.2.2.2.2⟩
     clear hK K hHeld2
     try simp only [qA,qB,qC,Act.put,qD,qE,qF]
     have st:Stp [16,17]:=trivial
     iterate 2
      refine tPL st (v:=?_) rfl ?_ ?_
      rotate_left
      ·(intro w hSw;(try dsimp only at hSw);go_simp;try with_reducible rfl)
      replace st:=st.tl
      try simp only [qA,qB,qC,Act.put,qD,qE,qF]
     refine zn (by kernel_rfl) (NoPanic.normal ?_) _
     have HS:=hD (HS.out.up hb4)
     clear hb4 hHeld
     rw [← HAE.out] at HS
     clear HSZ x0 x1 x18 x19 x20 i0 i1 i2 i3 i4 q0 q1 q2 q3 c5
     obtain⟨i0,i1,i2,i3,i4,q0,q1,q2,q3⟩:=HS.out.rl
     go_upto_region 68 with(fail)
     obtain⟨C,HC,HSZ,H1⟩:=genS HSs
     rw [HC.out] at HS
     go_upto_region 71 with(first | (go_at_call 70;refine(HPA.out _ (HV.out.below HS.out.below)).mono ?_;rintro e1 w5 ⟨rfl,hb5⟩;have HS:=upS HS hb5;clear hb5;obtain⟨i0,i1,i2,i3,i4,q0,q1,q2,q3⟩:=HS.out.rl))
     go_wp2_with (first | (refine ldS HS HSZ rfl (.tmp 7) rfl rfl ?_) | (refine stS HS HZS HSZ H1 rfl (.tmp 8) (.tmp 296) rfl rfl rfl ?_))
     exact finD HS HZS HSZ HSs HC HR rfl rfl rfl rfl fun _=>rfl
   ·have HR:Hid (asksV o (arityP o (ak:Int)) (20,a,b,c,d) s=false):=hD (by rw [HR0.out,decide_eq_false hen,Bool.false_and,Bool.false_and])
    go_upto_region 54 with(fail)
    go_quiet (fail)
    have HS:=hD (HS.out.drewN nq)
    obtain⟨w9,hw9⟩:∃ w9,w2.drewN nq=w9:=⟨_,rfl⟩
    rw [hw9] at HS ⊢
    clear hw9
    rw [← HAE.out] at HS
    clear HSZ x0 x1 x18 x19 x20 i0 i1 i2 i3 i4 q0 q1 q2 q3 c5
    obtain⟨i0,i1,i2,i3,i4,q0,q1,q2,q3⟩:=HS.out.rl
    go_upto_region 68 with(fail)
    obtain⟨C,HC,HSZ,H1⟩:=genS HSs
    rw [HC.out] at HS
    go_upto_region 71 with(first | (go_at_call 70;refine(HPA.out _ (HV.out.below HS.out.below)).mono ?_;rintro e1 w5 ⟨rfl,hb5⟩;have HS:=upS HS hb5;clear hb5;obtain⟨i0,i1,i2,i3,i4,q0,q1,q2,q3⟩:=HS.out.rl))
    go_wp2_with (first | (refine ldS HS HSZ rfl (.tmp 7) rfl rfl ?_) | (refine stS HS HZS HSZ H1 rfl (.tmp 8) (.tmp 296) rfl rfl rfl ?_))
    exact finN HS HZS HSZ HSs HC HR rfl rfl rfl rfl
end Go.Proofs.YtlmbiafloiompaaGreatDoor
