/-
 verify's Check (layer 11): what is known of an object's code,or what is wrong first,and where. Conditions: lengths as Go's values have them,the table of names as it is laid;of a sort that keeps its word.
-/
import Derived.Test.YtlmbiafloiompaaGreatDoorJO29
set_option linter.unusedVariables false
set_option linter.unusedSimpArgs false
namespace Go.Proofs.YtlmbiafloiompaaGreatDoor
open Go Go.RowKit
set_option maxRecDepth 100000
set_option maxHeartbeats 32000000 in
theorem zm9 (HS:SortOk) (HN:SortNil) (o:Ob) (hwf:ObWf o) {va vf vp vc:Value} (w:World) (hnm:NamesAt w) (hv:ObAt w va vf vp vc o) :
  Calls Tryz.prog 13 #[.agg #[va,vf,vp,vc]] w (CheckW w o):=by
 obtain⟨A1,c1,rfl⟩:=CellsAt.form hv.atoms
 obtain⟨A2,cf,rfl⟩:=CellsAt.form hv.funs
 obtain⟨A3,cp,rfl⟩:=CellsAt.form hv.preds
 obtain⟨A4,cc,rfl⟩:=CellsAt.form hv.code
 have HV:=hD hv
 have HSO:=hD HS
 have HSN:=hD HN
 have HWF:=hD hwf
 have hlp:=hwf.lp
 have HNM:Hid (∀ W,Below w.heap.size w W→NamesAt W):=hD (fun W hW=>hnm.below hW hnm.lt)
 have HCK:=hD (fun W (hW:Below w.heap.size w W)=>check_any o hwf (.slice A1 o.atoms.length c1) (.slice A2 o.funs.length cf) (.slice A3 o.preds.length cp) (.slice A4 o.code.length cc) W (hnm.below hW hnm.lt) (hv.below hW))
 have HNB:=hD (fun W (hW:Below w.heap.size w W)=>noneB_any o.preds hlp (.slice A3 o.preds.length cp) W (CellsAt.below hv.preds hW))
 clear hv HS HN hwf hnm
 obtain⟨g,hg⟩:∃ g,w.heap.size=g:=⟨_,rfl⟩
 obtain⟨hx0,hr0,hb0⟩:=zn1 w #[.slice A1 o.atoms.length c1,.slice A2 o.funs.length cf,.slice A3 o.preds.length cp,.slice A4 o.code.length cc] #[.slice none 0 0,.slice none 0 0] 35 49
 have HX:=hD hx0
 have HR:=hD hr0
 have HB:=hD hb0
 clear hx0 hr0 hb0
 go_enter Tryz.func13,Tryz.ntmps13
 go_upto_region 1 with(fail)
 obtain⟨w1,hw1⟩:∃ w1,(w.alloc (.cells #[.slice A1 o.atoms.length c1,.slice A2 o.funs.length cf,.slice A3 o.preds.length cp,.slice A4 o.code.length cc] 35)).alloc (.cells #[.slice none 0 0,.slice none 0 0] 49)=w1:=⟨_,rfl⟩
 rw [hw1] at HX HR HB ⊢
 rw [hg] at HX HR
 have HG:=hD HB.out.size
 clear hw1
 have x0:=HX.out.cell 0
 have x1:=HX.out.cell 1
 have x2:=HX.out.cell 2
 have x3:=HX.out.cell 3
 have HC1:=hD (HCK.out w1 HB.out)
 by_cases hc:checkOf o=0
 case neg=>
  have HE:=hD (zk17 hc)
  generalize checkOf o=ck at HC1 HE hc
  have e0:(ck != 0)=true:=by rw [bne_iff_ne];exact hc
  clear hc HCK HNB
  go_wp2_with (go_at_call 22;refine HC1.out.mono ?_;rintro e w2 ⟨rfl,hb2⟩;have HR2:=hD (HR.out.below hb2 HR.out.lt);have HB2:=hD (HB.out.trans (hb2.mono HG.out));have b0:=HR2.out.cell 0;have z0:=HR2.out.frozen 0;have b1:=HR2.out.cell 1;have z1:=HR2.out.frozen 1;clear hb2)
  exact zg13 (x:=.int .i64 ck) (y:=.int .i64 (-1)) HR2.out (by intro W c0 c1;simp [results,Tryz.results13,go_sem,c0,c1]) (fun W hW hF=>zi7 HE.out (HB2.out.trans (hF.below HB2.out.size (fun k hk=>by omega))))
 case pos=>
 rw [hc] at HC1
 have HN1:=hD (fun W (hW:Below w1.heap.size w1 W)=>HNB.out W (HB.out.trans (hW.mono HG.out)))
 by_cases hnp:o.preds.any noneP=true
 ·have HE:=hD (v_none hc hnp)
  rw [hnp] at HN1
  clear hc hnp HCK HNB
  go_wp2_with (first | (go_at_call 22;refine HC1.out.mono ?_;rintro e w2 ⟨rfl,hb2⟩;have HX2:=hD (HX.out.below hb2 HX.out.lt);have HR2:=hD (HR.out.below hb2 HR.out.lt);have HB2:=hD (HB.out.trans (hb2.mono HG.out));have HBW2:=hD hb2;have HG2:=hD hb2.size;have x2:=HX2.out.cell 2;clear hb2) | (go_at_call 23;refine(HN1.out w2 HBW2.out).mono ?_;rintro e w3 ⟨rfl,hb3⟩;have HR3:=hD (HR2.out.below hb3 HR2.out.lt);have HB3:=hD (HB2.out.trans (hb3.mono (Nat.le_trans HG.out HG2.out)));have b0:=HR3.out.cell 0;have z0:=HR3.out.frozen 0;have b1:=HR3.out.cell 1;have z1:=HR3.out.frozen 1;clear hb3))
  exact zg13 (x:=.int .i64 12) (y:=.int .i64 (-1)) HR3.out (by intro W c0 c1;simp [results,Tryz.results13,go_sem,c0,c1]) (fun W hW hF=>zi7 HE.out (HB3.out.trans (hF.below HB3.out.size (fun k hk=>by omega))))
 ·have hnf:o.preds.any noneP=false:=by simpa using hnp
  rw [hnf] at HN1
  have HK:=hD (ObK.of hc)
  have hlc:=HK.out.lc
  have HEN:=hD (ents_of hc hnf)
  have HCZ:=hD hc
  have HNF:=hD hnf
  clear hnp hnf hc HCK HNB
  have HNW:=hD (fun W=>zr16 hlc A1 A2 A3 A4 c1 cf cp cc W)
  go_upto_region 7 with(first | (go_at_call 22;refine HC1.out.mono ?_;rintro e w2 ⟨rfl,hb2⟩;have HX2:=hD (HX.out.below hb2 HX.out.lt);have HR2:=hD (HR.out.below hb2 HR.out.lt);have HB2:=hD (HB.out.trans (hb2.mono HG.out));have HBW2:=hD hb2;have HG2:=hD (Nat.le_trans HG.out hb2.size);have x2:=HX2.out.cell 2;clear hb2) | (go_at_call 23;refine(HN1.out w2 HBW2.out).mono ?_;rintro e w3 ⟨rfl,hb3⟩;have HX3:=hD (HX2.out.below hb3 HX2.out.lt);have HR3:=hD (HR2.out.below hb3 HR2.out.lt);have HB3:=hD (HB2.out.trans (hb3.mono HG2.out));have HG3:=hD (Nat.le_trans HG2.out hb3.size);have x0:=HX3.out.cell 0;have x1:=HX3.out.cell 1;have x2:=HX3.out.cell 2;have x3:=HX3.out.cell 3;clear hb3) | (go_at_call 25;refine(HNW.out w3).mono ?_;rintro e w4 ⟨gw,gp,rfl,hw4,hb4,hgp,hgw⟩;have HW4:=hD hw4;have HX4:=hD (HX3.out.below hb4 HX3.out.lt);have HR4:=hD (HR3.out.below hb4 HR3.out.lt);have HB4:=hD (HB3.out.trans (hb4.mono HG3.out));have HGP:=hD (Nat.le_trans HG3.out hgp);have HRL:=hD (Nat.lt_of_lt_of_le HR3.out.lt hgp);clear hw4 hb4 hgp hgw))
  have HFA:=hD (fault_any HSO.out HSN.out HK.out HEN.out.2 HEN.out.1 HW4.out HV.out HB4.out HGP.out (PlW.zeros _) (by rw [List.length_replicate]))
  have hgpg:g+1<gp:=HRL.out
  clear x0 x1 x2 x3 HX HR HB HX2 HR2 HB2 HX3 HR3 HB3 HN1 HC1 HNW
  go_upto_region 8 with(go_at_call 26;refine HFA.out.mono ?_;rintro e w5 ⟨L,hp5,hs5,hf5,hr5⟩;have HP5:=hD hp5;have HS5:=hD hs5;have HF5:=hD hf5;have HR5:=hD hr5;clear hp5 hs5 hf5 hr5;obtain⟨at_,rfl⟩:∃ a:Int,e=.returned (.int .i64 a):=zq19 HR5.out)
  have HX5:=hD (HX4.out.fr HF5.out (by omega))
  have HR6:=hD (HR4.out.fr HF5.out (by omega))
  have HB6:Hid (Below w.heap.size w w5):=hD (HB4.out.trans (HF5.out.below HB4.out.size (fun k hk=>by subst hk;exact HGP.out)))
  rcases zr19 HP5.out HS5.out HEN.out.1 HR5.out with⟨m,rfl,hwk⟩ | ⟨P,rfl,hwk,hpl,hpw,hplen⟩
  ·have HE:=hD (v_bad HCZ.out HNF.out hwk)
   have b0:=HR6.out.cell 0
   have z0:=HR6.out.frozen 0
   have b1:=HR6.out.cell 1
   have z1:=HR6.out.frozen 1
   have i0:(0:Int)≤(m:Int):=by omega
   clear hwk HR5
   go_wp2
   exact zg13 (x:=.int .i64 14) (y:=.int .i64 (m:Int)) HR6.out (by intro W c0 c1;simp [results,Tryz.results13,go_sem,c0,c1]) (fun W hW hF=>zi7 HE.out (HB6.out.trans (hF.below HB6.out.size (fun k hk=>by omega))))
  ·have HE:=hD (v_ok HCZ.out HNF.out hwk)
   have HGO:=hD (zk14 hwk)
   have HPW:=hD hpw
   have HW6:Hid (WkAt w5 gw gp (.slice A1 o.atoms.length c1) (.slice A2 o.funs.length cf) (.slice A3 o.preds.length cp) (.slice A4 o.code.length cc) P):=hD (HW4.out.upd HF5.out hpl (by rw [hplen,List.length_replicate]))
   have HX6:=HX5
   have HPLN:=hD hplen
   clear hwk HR5 hpl hpw HX5 hplen
   obtain⟨w6,hw6⟩:∃ w6,w5=w6:=⟨_,rfl⟩
   rw [hw6] at HX6 HR6 HB6 HW6 ⊢
   clear hw6
   go_upto_region 10 with(fail)
   refine wp_region_noPanic ?_
   refine zt 99 (fun w'=>w'.cell? ⟨g,0,none⟩=some (.slice A1 o.atoms.length c1)∧w'.cell? ⟨g,1,none⟩=some (.slice A2 o.funs.length cf)∧w'.cell? ⟨g,2,none⟩=some (.slice A3 o.preds.length cp)∧w'.cell? ⟨g,3,none⟩=some (.slice A4 o.code.length cc)) (by kernel_rfl) ?_ (fun hHeld=>?_)
   ·exact⟨HX6.out.cell 0,HX6.out.cell 1,HX6.out.cell 2,HX6.out.cell 3⟩
   change wpAnyT _ _ _ _ _ _ _ _ _ w6.drew
   replace hHeld:w6.drew.cell? ⟨g,0,none⟩=some (.slice A1 o.atoms.length c1)∧w6.drew.cell? ⟨g,1,none⟩=some (.slice A2 o.funs.length cf)∧w6.drew.cell? ⟨g,2,none⟩=some (.slice A3 o.preds.length cp)∧w6.drew.cell? ⟨g,3,none⟩=some (.slice A4 o.code.length cc):=hHeld
   have HX7:=hD HX6.out.drew
   have HR7:=hD HR6.out.drew
   have HB7:=hD (bel_dn HB6.out 1)
   change Hid (Below w.heap.size w w6.drew) at HB7
   have HW7:Hid (WkAt w6.drew gw gp (.slice A1 o.atoms.length c1) (.slice A2 o.funs.length cf) (.slice A3 o.preds.length cp) (.slice A4 o.code.length cc) P):=hD ⟨HW6.out.wk,HW6.out.pl⟩
   have HG7:Hid (w.heap.size≤w6.drew.heap.size):=hD HB7.out.size
   generalize w6.drew=w7 at hHeld HX7 HR7 HB7 HW7 HG7 ⊢
   refine tP (i:=0) (v:=?_) rfl ?_ ?_
   rotate_left
   ·(intro w hSw;(try dsimp only at hSw);go_simp;try with_reducible rfl)
   try simp only [qA,qB,qC,Act.put,qD,qE,qF]
   refine tS (i:=2) (v:=?_) rfl ?_ hHeld ?_
   rotate_left
   ·intro w hSw
    try dsimp only at hSw
    obtain⟨h1,h2,h3,h4⟩:=hSw
    go_simp
    try with_reducible rfl
   try simp only [qA,qB,qC,Act.put,qD,qE,qF]
   refine wT1 (i:=1) (by kernel_rfl) rfl fun K hK=>?_
   go_simp
   go_at_call 27;refine(zd21 HW7.out HPW.out.ok (by rw [HPLN.out];exact hlc)).mono ?_;rintro e3 w8 ⟨vs,rfl,ho8,hb8⟩;obtain⟨As,ks,hvs⟩:=CellsAt.form (CellsAt.of_own ho8 (by decide));subst hvs;have HOF:Hid (∀ k,(Value.slice As P.length ks).ownBlock=some k→w7.heap.size≤k):=hD (fun k hk=>(own_ge ho8 hk).1);have HO8:=hD (CellsAt.of_own ho8 (by decide));have HX8:=hD (HX7.out.below hb8 HX7.out.lt);have HR8:=hD (HR7.out.below hb8 HR7.out.lt);have HB8:=hD (HB7.out.trans (hb8.mono HG7.out));have HG8:=hD (Nat.le_trans HG7.out hb8.size);clear ho8 hb8
   refine hK.out _ _ (fun _=>?_) (fun hHeld2=>?_)
   ·exact⟨HX8.out.cell 0,HX8.out.cell 1,HX8.out.cell 2,HX8.out.cell 3⟩
   replace hHeld:=hHeld2 (by decide)
   clear hHeld2 hK K
   try simp only [qA,qB,qC,Act.put,qD,qE,qF]
   refine wT1 (i:=3) (by kernel_rfl) rfl fun K hK=>?_
   go_simp
   go_at_call 28;refine(needs_any HK.out HGO.out (HV.out.below HB8.out)).mono ?_;rintro e3 w9 ⟨vn,rfl,hn9,hq9,hb9⟩;obtain⟨An,kn,hvn⟩:=CellsAt.form hn9;subst hvn;have HNF2:=hD hq9;have HN9:=hD hn9;clear hq9;have HO9:=hD (HO8.out.below hb9);have HX9:=hD (HX8.out.below hb9 HX8.out.lt);have HR9:=hD (HR8.out.below hb9 HR8.out.lt);have HB9:=hD (HB8.out.trans (hb9.mono HG8.out));clear hn9 hb9
   refine hK.out _ _ (fun _=>?_) (fun hHeld2=>?_)
   ·exact⟨HX9.out.cell 0,HX9.out.cell 1,HX9.out.cell 2,HX9.out.cell 3⟩
   replace hHeld:=hHeld2 (by decide)
   clear hHeld2 hK K
   try simp only [qA,qB,qC,Act.put,qD,qE,qF]
   refine tP (i:=4) (v:=?_) rfl ?_ ?_
   rotate_left
   ·(intro w hSw;(try dsimp only at hSw);go_simp;try with_reducible rfl)
   try simp only [qA,qB,qC,Act.put,qD,qE,qF]
   have z0:=HR9.out.cell 0
   have z1:=HR9.out.cell 1
   have y0:=HR9.out.frozen 0
   have y1:=HR9.out.frozen 1
   refine wT1 (i:=5) (by kernel_rfl) rfl fun K hK=>?_
   go_simp
   have HXe:=hD ((HX9.out.far (p:=⟨g+1,0,none⟩) (by simp) (.slice As P.length ks)).far (p:=⟨g+1,1,none⟩) (by simp) (.slice An o.code.length kn))
   refine hK.out _ _ (fun _=>?_) (fun hHeld2=>?_)
   ·exact⟨HXe.out.cell 0,HXe.out.cell 1,HXe.out.cell 2,HXe.out.cell 3⟩
   replace hHeld:=hHeld2 (by decide)
   clear hHeld2 hK K
   try simp only [qA,qB,qC,Act.put,qD,qE,qF]
   have st:Stp [6,7]:=trivial
   iterate 2
    refine tPL st (v:=?_) rfl ?_ ?_
    rotate_left
    ·(intro w hSw;(try dsimp only at hSw);go_simp;try with_reducible rfl)
    replace st:=st.tl
    try simp only [qA,qB,qC,Act.put,qD,qE,qF]
   refine zn (by kernel_rfl) (NoPanic.normal ?_) _
   go_wp2
   have hlen2:(P.map (·.s)).length=P.length:=List.length_map _
   have hfl2:(P.map (·.s)).flatMap stSs=P.flatMap stC:=by rw [List.flatMap_map];rfl
   exact zg13 (x:=.int .i64 0) (y:=.int .i64 (-1)) HR9.out (by intro W c0 c1;simp [results,Tryz.results13,go_sem,c0,c1]) (fun W hW hF=>by
    have hbW:Below w9.heap.size w9 W→True:=fun _=>trivial
    refine⟨_,_,by rw [HE.out],?_,?_,HB9.out.trans (hF.below HB9.out.size (fun k hk=>by omega))⟩
    ·rw [HE.out,hlen2,hfl2]
     exact CellsAt.frV HO9.out hF (fun k hk e=>by have h1:=HOF.out k hk;have h2:=HR7.out.lt;omega)
    ·rw [HE.out,zp2]
     exact CellsAt.frV HN9.out hF (fun k hk e=>by have h1:=HNF2.out k hk;have h2:=HR8.out.lt;omega))
end Go.Proofs.YtlmbiafloiompaaGreatDoor
