/-
 The law VerifyObjects (layer 11) answers true. Conditions: the document's Check keeps its word;texts of sizes that memory has;nil rows of capacity 0.
-/
import Derived.Test.YtlmbiafloiompaaGreatDoorJO38
import Derived.Test.YtlmbiafloiompaaGreatDoorJO46
import Derived.Test.YtlmbiafloiompaaGreatDoorJO45
import Derived.Test.YtlmbiafloiompaaGreatDoorJO47
import Derived.Test.YtlmbiafloiompaaGreatDoorJO49
import Derived.Test.YtlmbiafloiompaaGreatDoorJO12
set_option linter.unusedVariables false
set_option linter.unusedSimpArgs false
namespace Go.Proofs.YtlmbiafloiompaaGreatDoor
open Go Go.RowKit
set_option maxRecDepth 100000
theorem zf5 {P:Program} {o:Oper} {a:Act} {w:World} {t:TypeId} {x:Operand} {p v:Value} (ho:o.op=.load t x) (hx:a.eval x=p) (h:(Instr.loadAt t p).run P w=.ok v w):(execOp a.eval o).run P w=.ok (.value v) w:=by
 unfold execOp
 simp only [ho,hx,Sem.run_bind,h,Result.andThen_ok,Sem.run_pure]
theorem zs11 (g:Nat) (W:World) {a b c d:Value} (h:W.cell? ⟨g,0,none⟩=some a∧W.cell? ⟨g,1,none⟩=some b∧W.cell? ⟨g,2,none⟩=some c∧W.cell? ⟨g,3,none⟩=some d):(Instr.loadAt 27 (.pointer (some ⟨g,0,none⟩))).run Tryz.prog W=.ok (.agg #[a,b,c,d]) W:=by
 obtain⟨h0,h1,h2,h3⟩:=h
 go_simp
theorem zr11 (g:Nat) (W:World) {a b c d:Value} (h:W.cell? ⟨g,0,none⟩=some a∧W.cell? ⟨g,1,none⟩=some b∧W.cell? ⟨g,2,none⟩=some c∧W.cell? ⟨g,3,none⟩=some d):(Instr.loadAt 35 (.pointer (some ⟨g,0,none⟩))).run Tryz.prog W=.ok (.agg #[a,b,c,d]) W:=by
 obtain⟨h0,h1,h2,h3⟩:=h
 go_simp
structure VoD (w:World) (g gp:Nat) (V T:Array Value) (ta tf tp tc:Value) (o:Ob) (W:World):Prop where
 ob:Box W g 27 V
 pb:Box W gp 35 T
 below:Below w.heap.size w W
 pa:ObAt W ta tf tp tc o
section
variable {w:World} {g gp:Nat} {V T:Array Value} {ta tf tp tc:Value} {o:Ob} {W:World}
theorem VoD.up {W':World} (h:VoD w g gp V T ta tf tp tc o W) (hb:Below W.heap.size W W'):VoD w g gp V T ta tf tp tc o W':=
 ⟨h.ob.below hb h.ob.lt,h.pb.below hb h.pb.lt,h.below.trans (hb.mono h.below.size),h.pa.below hb⟩
theorem VoD.drewN (h:VoD w g gp V T ta tf tp tc o W) (n:Nat):VoD w g gp V T ta tf tp tc o (W.drewN n):=h.up (bel_dn (Below.refl _ _) n)
end
set_option maxHeartbeats 16000000 in
theorem zx7 (HR:RCheck11) (o:Ob) (hsa:∀ s ∈ o.atoms,s.size≤maxLen) (hsf:∀ f ∈ o.funs,f.1.size≤maxLen) (hsp:∀ p ∈ o.preds,p.1.size≤maxLen) (va vf vp vc:Value) (w:World) {B:Nat} (hp:LaidC B w) (hv:ObAt w va vf vp vc o) (hna:∀ k c,va=.slice none k c→c=0) (hnp:∀ k c,vp=.slice none k c→c=0) :
  Calls Tryz.prog 3 #[.agg #[va,vf,vp,vc]] w fun e w'=>e=.returned (.bool true)∧Below w.heap.size w w':=by
 obtain⟨A1,c1,rfl⟩:=CellsAt.form hv.atoms
 obtain⟨A2,cf,rfl⟩:=CellsAt.form hv.funs
 obtain⟨A3,cp,rfl⟩:=CellsAt.form hv.preds
 obtain⟨A4,cc,rfl⟩:=CellsAt.form hv.code
 have HV:=hD hv
 have HP:=hD hp
 have HNA:=hD hna
 have HFX:=hD (fun W h=>fix8_any o (.slice A1 o.atoms.length c1) (.slice A2 o.funs.length cf) (.slice A3 o.preds.length cp) (.slice A4 o.code.length cc) W h hnp)
 have HWF:Hid (o.code.length≤200→o.preds.length≤70→o.atoms.length≤300→o.funs.length≤300→ObWf o):=hD (fun h1 h2 h3 h4=>⟨hsa,hsf,hsp,by omega,by omega,by omega,by omega⟩)
 have HB0:=hD (za w (.cells #[.slice A1 o.atoms.length c1,.slice A2 o.funs.length cf,.slice A3 o.preds.length cp,.slice A4 o.code.length cc] 27))
 have HX0:=hD (Box.new w 27 #[.slice A1 o.atoms.length c1,.slice A2 o.funs.length cf,.slice A3 o.preds.length cp,.slice A4 o.code.length cc])
 clear hv hp hna hnp hsa hsf hsp
 obtain⟨g,hg⟩:∃ g,w.heap.size=g:=⟨_,rfl⟩
 go_enter Tryz.func3,Tryz.ntmps3
 go_upto_region 1 with(fail)
 obtain⟨w1,hw1⟩:∃ w1,w.alloc (.cells #[.slice A1 o.atoms.length c1,.slice A2 o.funs.length cf,.slice A3 o.preds.length cp,.slice A4 o.code.length cc] 27)=w1:=⟨_,rfl⟩
 rw [hw1] at HB0 HX0 ⊢
 rw [hg] at HX0
 try rw [hg]
 clear hw1
 have q0:=HX0.out.cell 0
 have q1:=HX0.out.cell 1
 have q2:=HX0.out.cell 2
 have q3:=HX0.out.cell 3
 by_cases hc:o.code.length≤200
 case neg=>
  have hx:=(show(200:Int)<(o.code.length:Int) by omega)
  go_wp2_with (go_at_call 6;refine(zy3 _ (HP.out.up HB0.out)).mono ?_;rintro e w3 ⟨rfl,hb3⟩;have HB3:=hD (HB0.out.trans (hb3.mono HB0.out.size));clear hb3)
  go_ret
  exact⟨rfl,HB3.out⟩
 case pos=>
 have hc':¬ ((200:Int)<(o.code.length:Int)):=by omega
 by_cases hpn:o.preds.length≤70
 case neg=>
  have hx:=(show(70:Int)<(o.preds.length:Int) by omega)
  go_wp2_with (go_at_call 6;refine(zy3 _ (HP.out.up HB0.out)).mono ?_;rintro e w3 ⟨rfl,hb3⟩;have HB3:=hD (HB0.out.trans (hb3.mono HB0.out.size));clear hb3)
  go_ret
  exact⟨rfl,HB3.out⟩
 case pos=>
 have hp':¬ ((70:Int)<(o.preds.length:Int)):=by omega
 by_cases han:o.atoms.length≤300
 case neg=>
  have hx:=(show(300:Int)<(o.atoms.length:Int) by omega)
  go_wp2_with (go_at_call 6;refine(zy3 _ (HP.out.up HB0.out)).mono ?_;rintro e w3 ⟨rfl,hb3⟩;have HB3:=hD (HB0.out.trans (hb3.mono HB0.out.size));clear hb3)
  go_ret
  exact⟨rfl,HB3.out⟩
 case pos=>
 have ha':¬ ((300:Int)<(o.atoms.length:Int)):=by omega
 by_cases hfn:o.funs.length≤300
 case neg=>
  have hx:=(show(300:Int)<(o.funs.length:Int) by omega)
  go_wp2_with (go_at_call 6;refine(zy3 _ (HP.out.up HB0.out)).mono ?_;rintro e w3 ⟨rfl,hb3⟩;have HB3:=hD (HB0.out.trans (hb3.mono HB0.out.size));clear hb3)
  go_ret
  exact⟨rfl,HB3.out⟩
 case pos=>
 have hf':¬ ((300:Int)<(o.funs.length:Int)):=by omega
 have hwf:=HWF.out hc hpn han hfn
 have HTO:=hD (fun W h=>zd19 o hwf (.slice A1 o.atoms.length c1) (.slice A2 o.funs.length cf) (.slice A3 o.preds.length cp) (.slice A4 o.code.length cc) W h HNA.out)
 have HSM:=hD (fun ya yf yp yc W h h2=>by have:=rsame_any o o hwf ya yf yp yc (.slice A1 o.atoms.length c1) (.slice A2 o.funs.length cf) (.slice A3 o.preds.length cp) (.slice A4 o.code.length cc) W h h2;rw [decide_eq_true (rfl:o=o)] at this;exact this)
 have HWD:=hD hwf
 clear hwf HWF
 go_upto_region 4 with(go_at_call 7;refine(HTO.out _ (HV.out.below HB0.out)).mono ?_;rintro e w2 ⟨ta,tf,tp,tc,rfl,ht,hb2,hnt⟩;obtain⟨D1,d1,rfl⟩:=CellsAt.form ht.atoms;obtain⟨D2,d2,rfl⟩:=CellsAt.form ht.funs;obtain⟨D3,d3,rfl⟩:=CellsAt.form ht.preds;obtain⟨D4,d4,rfl⟩:=CellsAt.form ht.code;have HT2:=hD ht;have HNT:=hD hnt;have HX2:=hD (HX0.out.below hb2 HX0.out.lt);have HB2:=hD (HB0.out.trans (hb2.mono HB0.out.size));clear ht hnt hb2)
 have hba:=za w2 (.cells #[.slice D1 o.atoms.length d1,.slice D2 o.funs.length d2,.slice D3 o.preds.length d3,.slice D4 o.code.length d4] 35)
 have HD:Hid (VoD w g w2.heap.size #[.slice A1 o.atoms.length c1,.slice A2 o.funs.length cf,.slice A3 o.preds.length cp,.slice A4 o.code.length cc] #[.slice D1 o.atoms.length d1,.slice D2 o.funs.length d2,.slice D3 o.preds.length d3,.slice D4 o.code.length d4] (.slice D1 o.atoms.length d1) (.slice D2 o.funs.length d2) (.slice D3 o.preds.length d3) (.slice D4 o.code.length d4) o (w2.alloc (.cells #[.slice D1 o.atoms.length d1,.slice D2 o.funs.length d2,.slice D3 o.preds.length d3,.slice D4 o.code.length d4] 35))):=hD ⟨HX2.out.below hba HX2.out.lt,Box.new w2 35 #[.slice D1 o.atoms.length d1,.slice D2 o.funs.length d2,.slice D3 o.preds.length d3,.slice D4 o.code.length d4],HB2.out.trans (hba.mono HB2.out.size),HT2.out.below hba⟩
 obtain⟨W0,hW0⟩:∃ W0,w2.alloc (.cells #[.slice D1 o.atoms.length d1,.slice D2 o.funs.length d2,.slice D3 o.preds.length d3,.slice D4 o.code.length d4] 35)=W0:=⟨_,rfl⟩
 obtain⟨gp,hgp⟩:∃ gp,w2.heap.size=gp:=⟨_,rfl⟩
 rw [hW0,hgp] at HD
 rw [hW0]
 try rw [hgp]
 clear hba hW0 hgp HX2 HB2 HT2 HX0 HB0 q0 q1 q2 q3 HTO hc hpn han hfn hc' hp' ha' hf'
 have HCH:=hD (fun W h1 h2=>zm11 HR HWD.out (va:=.slice D1 o.atoms.length d1) (vf:=.slice D2 o.funs.length d2) (vp:=.slice D3 o.preds.length d3) (vc:=.slice D4 o.code.length d4) W h1 h2 HNT.out)
 have HFR:=hD (fun W h=>zo11 o HWD.out (.slice D1 o.atoms.length d1) (.slice D2 o.funs.length d2) (.slice D3 o.preds.length d3) (.slice D4 o.code.length d4) W h HNT.out)
 refine wp_region_noPanic ?_
 refine zt 99 (fun w'=>(w'.cell? ⟨g,0,none⟩=some (.slice A1 o.atoms.length c1)∧w'.cell? ⟨g,1,none⟩=some (.slice A2 o.funs.length cf)∧w'.cell? ⟨g,2,none⟩=some (.slice A3 o.preds.length cp)∧w'.cell? ⟨g,3,none⟩=some (.slice A4 o.code.length cc))∧(w'.cell? ⟨gp,0,none⟩=some (.slice D1 o.atoms.length d1)∧w'.cell? ⟨gp,1,none⟩=some (.slice D2 o.funs.length d2)∧w'.cell? ⟨gp,2,none⟩=some (.slice D3 o.preds.length d3)∧w'.cell? ⟨gp,3,none⟩=some (.slice D4 o.code.length d4))) (by kernel_rfl) ?_ (fun hHeld=>?_)
 ·exact⟨⟨(HD.out.drewN 1).ob.cell 0,(HD.out.drewN 1).ob.cell 1,(HD.out.drewN 1).ob.cell 2,(HD.out.drewN 1).ob.cell 3⟩,⟨(HD.out.drewN 1).pb.cell 0,(HD.out.drewN 1).pb.cell 1,(HD.out.drewN 1).pb.cell 2,(HD.out.drewN 1).pb.cell 3⟩⟩
 change wpAnyT _ _ _ _ _ _ _ _ _ W0.drew
 replace hHeld:(W0.drew.cell? ⟨g,0,none⟩=some (.slice A1 o.atoms.length c1)∧W0.drew.cell? ⟨g,1,none⟩=some (.slice A2 o.funs.length cf)∧W0.drew.cell? ⟨g,2,none⟩=some (.slice A3 o.preds.length cp)∧W0.drew.cell? ⟨g,3,none⟩=some (.slice A4 o.code.length cc))∧(W0.drew.cell? ⟨gp,0,none⟩=some (.slice D1 o.atoms.length d1)∧W0.drew.cell? ⟨gp,1,none⟩=some (.slice D2 o.funs.length d2)∧W0.drew.cell? ⟨gp,2,none⟩=some (.slice D3 o.preds.length d3)∧W0.drew.cell? ⟨gp,3,none⟩=some (.slice D4 o.code.length d4)):=hHeld
 have HD:=hD (HD.out.drewN 1)
 change Hid (VoD w g gp #[.slice A1 o.atoms.length c1,.slice A2 o.funs.length cf,.slice A3 o.preds.length cp,.slice A4 o.code.length cc] #[.slice D1 o.atoms.length d1,.slice D2 o.funs.length d2,.slice D3 o.preds.length d3,.slice D4 o.code.length d4] (.slice D1 o.atoms.length d1) (.slice D2 o.funs.length d2) (.slice D3 o.preds.length d3) (.slice D4 o.code.length d4) o W0.drew) at HD
 generalize W0.drew=w4 at HD hHeld ⊢
 refine wT1 (i:=0) (by kernel_rfl) rfl fun K hK=>?_
 refine zp (vs:=#[]) (by kernel_rfl) (enters_of Tryz.func6 (by kernel_rfl) rfl) _ rfl (by kernel_rfl) ?_
 refine(zy3 _ (HP.out.up HD.out.below)).mono ?_
 rintro e1 w4 ⟨rfl,hb4⟩
 refine⟨_,rfl,?_⟩
 have HD:=hD (HD.out.up hb4)
 clear hb4
 refine hK.out _ _ (fun _=>?_) (fun hHeld2=>?_)
 ·exact⟨⟨HD.out.ob.cell 0,HD.out.ob.cell 1,HD.out.ob.cell 2,HD.out.ob.cell 3⟩,⟨HD.out.pb.cell 0,HD.out.pb.cell 1,HD.out.pb.cell 2,HD.out.pb.cell 3⟩⟩
 replace hHeld:=hHeld2 (by decide)
 clear hHeld2 hK K
 try simp only [qA,qB,qC,Act.put,qD,qE,qF]
 refine tP (i:=1) (v:=?_) rfl ?_ ?_
 rotate_left
 ·(intro w hSw;(try dsimp only at hSw);go_simp;try with_reducible rfl)
 try simp only [qA,qB,qC,Act.put,qD,qE,qF]
 refine tkS (i:=2) (v:=.agg #[.slice D1 o.atoms.length d1,.slice D2 o.funs.length d2,.slice D3 o.preds.length d3,.slice D4 o.code.length d4]) rfl (fun _ _ _ h=>h) (Or.inl ⟨by kernel_rfl,fun w hSw=>zf5 rfl (by kernel_rfl) (zr11 _ w hSw.2)⟩) hHeld ?_
 try simp only [qA,qB,qC,Act.put,qD,qE,qF]
 refine wT1 (i:=3) (by kernel_rfl) rfl fun K hK=>?_
 refine zp (vs:=#[.agg #[.slice D1 o.atoms.length d1,.slice D2 o.funs.length d2,.slice D3 o.preds.length d3,.slice D4 o.code.length d4]]) (by kernel_rfl) (enters_of Tryz.func8 (by kernel_rfl) rfl) _ rfl (by kernel_rfl) ?_
 refine(HCH.out _ (HP.out.up HD.out.below).names HD.out.pa).mono ?_
 rintro e1 w4 ⟨rfl,hb4⟩
 refine⟨_,rfl,?_⟩
 have HD:=hD (HD.out.up hb4)
 clear hb4
 refine hK.out _ _ (fun _=>?_) (fun hHeld2=>?_)
 ·exact⟨⟨HD.out.ob.cell 0,HD.out.ob.cell 1,HD.out.ob.cell 2,HD.out.ob.cell 3⟩,⟨HD.out.pb.cell 0,HD.out.pb.cell 1,HD.out.pb.cell 2,HD.out.pb.cell 3⟩⟩
 replace hHeld:=hHeld2 (by decide)
 clear hHeld2 hK K
 try simp only [qA,qB,qC,Act.put,qD,qE,qF]
 have st:Stp [4,5]:=trivial
 iterate 2
  refine tPL st (v:=?_) rfl ?_ ?_
  rotate_left
  ·(intro w hSw;(try dsimp only at hSw);go_simp;try with_reducible rfl)
  replace st:=st.tl
  try simp only [qA,qB,qC,Act.put,qD,qE,qF]
 refine tkS (i:=6) (v:=.agg #[.slice A1 o.atoms.length c1,.slice A2 o.funs.length cf,.slice A3 o.preds.length cp,.slice A4 o.code.length cc]) rfl (fun _ _ _ h=>h) (Or.inl ⟨by kernel_rfl,fun w hSw=>zf5 rfl (by kernel_rfl) (zs11 _ w hSw.1)⟩) hHeld ?_
 try simp only [qA,qB,qC,Act.put,qD,qE,qF]
 refine wT1 (i:=7) (by kernel_rfl) rfl fun K hK=>?_
 refine zp (vs:=#[.agg #[.slice A1 o.atoms.length c1,.slice A2 o.funs.length cf,.slice A3 o.preds.length cp,.slice A4 o.code.length cc]]) (by kernel_rfl) (enters_of Tryz.func9 (by kernel_rfl) rfl) _ rfl (by kernel_rfl) ?_
 refine(HFX.out _ (HV.out.below HD.out.below)).mono ?_
 rintro e1 w4 ⟨o',ua,uf,up,uc,rfl,hat,hck,hnu,hb4,_⟩
 refine⟨_,rfl,?_⟩
 have HAT:=hD (hat _ (Fr.refl _ _))
 have HWU:=hD (wf_okV hck)
 have HNU:=hD hnu
 have HD:=hD (HD.out.up hb4)
 clear hat hck hnu hb4
 refine hK.out _ _ (fun _=>?_) (fun hHeld2=>?_)
 ·exact⟨⟨HD.out.ob.cell 0,HD.out.ob.cell 1,HD.out.ob.cell 2,HD.out.ob.cell 3⟩,⟨HD.out.pb.cell 0,HD.out.pb.cell 1,HD.out.pb.cell 2,HD.out.pb.cell 3⟩⟩
 replace hHeld:=hHeld2 (by decide)
 clear hHeld2 hK K
 try simp only [qA,qB,qC,Act.put,qD,qE,qF]
 refine wT1 (i:=8) (by kernel_rfl) rfl fun K hK=>?_
 refine zp (vs:=#[.agg #[ua,uf,up,uc]]) (by kernel_rfl) (enters_of Tryz.func7 (by kernel_rfl) rfl) _ rfl (by kernel_rfl) ?_
 refine(zd19 o' HWU.out ua uf up uc _ HAT.out HNU.out).mono ?_
 rintro e1 w4 ⟨xa,xf,xp,xc,rfl,hx,hb4,hnx⟩
 refine⟨_,rfl,?_⟩
 have HXT:=hD hx
 have HNX:=hD hnx
 have HD:=hD (HD.out.up hb4)
 clear hx hnx hb4 HAT
 refine hK.out _ _ (fun _=>?_) (fun hHeld2=>?_)
 ·exact⟨⟨HD.out.ob.cell 0,HD.out.ob.cell 1,HD.out.ob.cell 2,HD.out.ob.cell 3⟩,⟨HD.out.pb.cell 0,HD.out.pb.cell 1,HD.out.pb.cell 2,HD.out.pb.cell 3⟩⟩
 replace hHeld:=hHeld2 (by decide)
 clear hHeld2 hK K
 try simp only [qA,qB,qC,Act.put,qD,qE,qF]
 refine wT1 (i:=9) (by kernel_rfl) rfl fun K hK=>?_
 refine zp (vs:=#[.agg #[xa,xf,xp,xc]]) (by kernel_rfl) (enters_of Tryz.func8 (by kernel_rfl) rfl) _ rfl (by kernel_rfl) ?_
 refine(zm11 HR HWU.out _ (HP.out.up HD.out.below).names HXT.out HNX.out).mono ?_
 rintro e1 w4 ⟨rfl,hb4⟩
 refine⟨_,rfl,?_⟩
 have HD:=hD (HD.out.up hb4)
 clear hb4 HXT
 refine hK.out _ _ (fun _=>?_) (fun hHeld2=>?_)
 ·exact⟨⟨HD.out.ob.cell 0,HD.out.ob.cell 1,HD.out.ob.cell 2,HD.out.ob.cell 3⟩,⟨HD.out.pb.cell 0,HD.out.pb.cell 1,HD.out.pb.cell 2,HD.out.pb.cell 3⟩⟩
 replace hHeld:=hHeld2 (by decide)
 clear hHeld2 hK K
 try simp only [qA,qB,qC,Act.put,qD,qE,qF]
 have st:Stp [10,11]:=trivial
 iterate 2
  refine tPL st (v:=?_) rfl ?_ ?_
  rotate_left
  ·(intro w hSw;(try dsimp only at hSw);go_simp;try with_reducible rfl)
  replace st:=st.tl
  try simp only [qA,qB,qC,Act.put,qD,qE,qF]
 refine tkS (i:=12) (v:=.agg #[.slice D1 o.atoms.length d1,.slice D2 o.funs.length d2,.slice D3 o.preds.length d3,.slice D4 o.code.length d4]) rfl (fun _ _ _ h=>h) (Or.inl ⟨by kernel_rfl,fun w hSw=>zf5 rfl (by kernel_rfl) (zr11 _ w hSw.2)⟩) hHeld ?_
 try simp only [qA,qB,qC,Act.put,qD,qE,qF]
 refine tkS (i:=14) (v:=.agg #[.slice A1 o.atoms.length c1,.slice A2 o.funs.length cf,.slice A3 o.preds.length cp,.slice A4 o.code.length cc]) rfl (fun _ _ _ h=>h) (Or.inl ⟨by kernel_rfl,fun w hSw=>zf5 rfl (by kernel_rfl) (zs11 _ w hSw.1)⟩) hHeld ?_
 try simp only [qA,qB,qC,Act.put,qD,qE,qF]
 refine wT1 (i:=13) (by kernel_rfl) rfl fun K hK=>?_
 refine zp (vs:=#[.agg #[.slice D1 o.atoms.length d1,.slice D2 o.funs.length d2,.slice D3 o.preds.length d3,.slice D4 o.code.length d4]]) (by kernel_rfl) (enters_of Tryz.func11 (by kernel_rfl) rfl) _ rfl (by kernel_rfl) ?_
 refine(HFR.out _ HD.out.pa).mono ?_
 rintro e1 w4 ⟨ya,yf,yp,yc,rfl,hy,hb4,_⟩
 refine⟨_,rfl,?_⟩
 have HY:=hD hy
 have HD:=hD (HD.out.up hb4)
 clear hy hb4
 refine hK.out _ _ (fun _=>?_) (fun hHeld2=>?_)
 ·exact⟨⟨HD.out.ob.cell 0,HD.out.ob.cell 1,HD.out.ob.cell 2,HD.out.ob.cell 3⟩,⟨HD.out.pb.cell 0,HD.out.pb.cell 1,HD.out.pb.cell 2,HD.out.pb.cell 3⟩⟩
 replace hHeld:=hHeld2 (by decide)
 clear hHeld2 hK K
 try simp only [qA,qB,qC,Act.put,qD,qE,qF]
 refine wT1 (i:=15) (by kernel_rfl) rfl fun K hK=>?_
 refine zp (vs:=#[.agg #[ya,yf,yp,yc],.agg #[.slice A1 o.atoms.length c1,.slice A2 o.funs.length cf,.slice A3 o.preds.length cp,.slice A4 o.code.length cc]]) (by kernel_rfl) (enters_of Tryz.func10 (by kernel_rfl) rfl) _ rfl (by kernel_rfl) ?_
 refine(HSM.out ya yf yp yc _ HY.out (HV.out.below HD.out.below)).mono ?_
 rintro e1 w4 ⟨rfl,hb4⟩
 refine⟨_,rfl,?_⟩
 have HD:=hD (HD.out.up hb4)
 clear hb4
 refine hK.out _ _ (fun _=>?_) (fun hHeld2=>?_)
 ·exact⟨⟨HD.out.ob.cell 0,HD.out.ob.cell 1,HD.out.ob.cell 2,HD.out.ob.cell 3⟩,⟨HD.out.pb.cell 0,HD.out.pb.cell 1,HD.out.pb.cell 2,HD.out.pb.cell 3⟩⟩
 replace hHeld:=hHeld2 (by decide)
 clear hHeld2 hK K
 try simp only [qA,qB,qC,Act.put,qD,qE,qF]
 have st:Stp [16,17]:=trivial
 iterate 2
  refine tPL st (v:=?_) rfl ?_ ?_
  rotate_left
  ·(intro w hSw;(try dsimp only at hSw);go_simp;try with_reducible rfl)
  replace st:=st.tl
  try simp only [qA,qB,qC,Act.put,qD,qE,qF]
 refine zn (by kernel_rfl) (NoPanic.normal ?_) _
 go_wp2
 go_ret
 exact⟨rfl,HD.out.below⟩
end Go.Proofs.YtlmbiafloiompaaGreatDoor
