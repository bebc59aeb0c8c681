/-
 The program's place of Funs,pred,full. Condition: at most a million rows.
-/
import Derived.Test.YtlmbiafloiompaaGreatDoorJO38
set_option linter.unusedVariables false
set_option linter.unusedSimpArgs false
namespace Go.Proofs.YtlmbiafloiompaaGreatDoor
open Go Go.RowKit Go.WideShapes Go.ChangeShapes
def PlacedF (w0 w:World) (g M:Nat) (va vf vp vc vq:Value) (s:St) (n:Nat) (e:Ending) (w':World):Prop:=∃ vf',e=.returned (.int .i64 n)∧Mk w0 w' g M va vf' vp vc vq s∧MkF w w' g M va vf vp vc vq va vf' vp vc vq
def PlacedP (w0 w:World) (g M:Nat) (va vf vp vc vq:Value) (s:St) (n:Int) (e:Ending) (w':World):Prop:=∃ vp',e=.returned (.int .i64 n)∧Mk w0 w' g M va vf vp' vc vq s∧MkF w w' g M va vf vp vc vq va vf vp' vc vq
set_option maxHeartbeats 2000000 in
theorem zd15 (w0:World) (g M:Nat) (va vf vp vc vq:Value) (s:St) (x:ByteArray) (n:Int) (hl:s.ob.funs.length≤1000000) (w:World) (hk:Mk w0 w g M va vf vp vc vq s) :
  Calls Tryz.prog 109 #[.pointer (some ⟨g,1,none⟩),.agg #[.string x,.int .i64 n]] w (PlacedF w0 w g M va vf vp vc vq { s with ob:={ s.ob with funs:=addTo s.ob.funs (x,n) } } (placeOf s.ob.funs (x,n))):=by
 have HK1:=hD (hk.alloc (.cells #[.string x,.int .i64 n] 61))
 have X0:=hD (Box.new w 61 #[.string x,.int .i64 n])
 have HB1:=hD (za w (.cells #[.string x,.int .i64 n] 61))
 obtain⟨A,c,hvf,_⟩:=zl hk.rf
 subst hvf
 clear hk
 have HI:=hD (fun W (h:Mk w0 W g M va (.slice A s.ob.funs.length c) vp vc vq s)=>zp14 s.ob.funs hl _ x n W h.at_.funs)
 go_enter Tryz.func109,Tryz.ntmps109
 go_upto_region 1 with(fail)
 obtain⟨w1,hw1⟩:∃ w1,w.alloc (.cells #[.string x,.int .i64 n] 61)=w1:=⟨_,rfl⟩
 obtain⟨gx,hgx⟩:∃ gx,w.heap.size=gx:=⟨_,rfl⟩
 rw [hw1] at HK1 X0 HB1 ⊢
 rw [hgx] at X0 ⊢
 clear hw1 hgx
 have c0:=HK1.out.box.cell 1
 have d0:=X0.out.cell 0
 have d1:=X0.out.cell 1
 by_cases hx:(x,n) ∈ s.ob.funs
 ·have hi:idxI s.ob.funs (x,n)=(placeOf s.ob.funs (x,n):Nat):=if_pos hx
  rw [hi] at HI
  have HE:Hid (({ s with ob:={ s.ob with funs:=addTo s.ob.funs (x,n) } }:St)=s):=hD (by rw [ze9 hx])
  generalize hpl:placeOf s.ob.funs (x,n)=m at HI
  have HPL:=hD hpl
  clear hx hi hpl
  go_region_law (go_simp;go_at_call 140;refine(HI.out _ (HK1.out.drewN 1)).mono ?_;rintro e w2 ⟨rfl,hb2⟩;have HK2:=hD ((HK1.out.drewN 1).up hb2);have HB2:=hD ((zo HB1.out 1).trans (hb2.mono (zo HB1.out 1).size));clear hb2)
  all_goals
   go_wp2
   go_ret
   exact⟨_,by rw [HPL.out];rfl,by rw [HE.out];exact HK2.out,MkF.below HB2.out⟩
 ·have hi:idxI s.ob.funs (x,n) = -1:=if_neg hx
  rw [hi] at HI
  have HE:Hid (({ s with ob:={ s.ob with funs:=addTo s.ob.funs (x,n) } }:St)={ s with ob:={ s.ob with funs:=s.ob.funs ++ [(x,n)] } }):=hD (by rw [zr12 hx])
  have HP:=hD (zs7 _ _ hx)
  clear hx hi
  go_cut [5] (fun i wc=>i=.int .i64 (-1)∧Hid (Mk w0 wc g M va (.slice A s.ob.funs.length c) vp vc vq s)∧Hid (Box wc gx 61 #[.string x,.int .i64 n])∧Hid (Below w.heap.size w wc))
  case first=>
   go_region_law (go_simp;go_at_call 140;refine(HI.out _ (HK1.out.drewN 1)).mono ?_;rintro e w2 ⟨rfl,hb2⟩;have HK2:=hD ((HK1.out.drewN 1).up hb2);have X2:=hD ((X0.out.drewN 1).below hb2 X0.out.lt);have HB2:=hD ((zo HB1.out 1).trans (hb2.mono (zo HB1.out 1).size));clear hb2)
   all_goals
    go_wp2
    go_meet
    exact⟨rfl,HK2,X2,HB2⟩
  case rest=>
  obtain⟨rfl,HK2,X2,HB2⟩:=hcut
  clear HK1 X0 c0 d0 d1
  have c0:=HK2.out.box.cell 1
  have d0:=X2.out.cell 0
  have d1:=X2.out.cell 1
  go_upto_region 4 with(fail)
  have c0a:=fun oo=>(HK2.out.box.alloc oo).cell 1
  obtain⟨v6,w6,hr6,HA6⟩:=zp1 slFun (HK2.out.drewN 1).rf [.string x,.int .i64 n] rfl (by intro u hu;simp only [List.mem_cons,List.not_mem_nil,or_false] at hu;rcases hu with rfl | rfl <;> rfl) hl (HK2.out.drewN 1).below.size 29
  obtain⟨A6,c6,hv6⟩:=HA6.out.form
  subst hv6
  obtain⟨hT6,z0,z1⟩:=(HK2.out.drewN 1).putf HA6.out
  have HF6:=hD ((MkF.below (zo HB2.out 1)).trans (MkF.putf (g:=g) (M:=M) (va:=va) (vp:=vp) (vc:=vc) (vq:=vq) HA6.out))
  have HT6:=hD hT6
  have HR6:=hD hr6
  clear hr6 hT6 HA6
  go_region_law (refine zi HR6.out rfl _ _ rfl rfl rfl ?_)
  all_goals
   go_wp2
   go_ret
   exact⟨_,by rw [HP.out];rfl,by rw [HE.out];exact HT6.out,HF6.out⟩
set_option maxHeartbeats 4000000 in
theorem zt18 (w0:World) (g M:Nat) (va vf vp vc vq:Value) (s:St) (x:ByteArray) (n:Int) (hl:s.ob.atoms.length≤1000000∧s.ob.funs.length≤1000000∧s.ob.preds.length≤1000000) (w:World) (hk:Mk w0 w g M va vf vp vc vq s) :
  Calls Tryz.prog 75 #[.pointer (some ⟨g,0,none⟩),.agg #[.string x,.int .i64 n]] w (PlacedP w0 w g M va vf vp vc vq { s with ob:=(predStep s.ob (x,n)).2 } (predStep s.ob (x,n)).1):=by
 have HK1:=hD (hk.alloc (.cells #[.string x,.int .i64 n] 61))
 have X0:=hD (Box.new w 61 #[.string x,.int .i64 n])
 have HB1:=hD (za w (.cells #[.string x,.int .i64 n] 61))
 obtain⟨A1,c1,hva,_⟩:=zl hk.ra
 obtain⟨A2,c2,hvf,_⟩:=zl hk.rf
 obtain⟨A3,c3,hvp,_⟩:=zl hk.rp
 obtain⟨A4,c4,hvc,_⟩:=zl hk.rc
 subst hva hvf hvp hvc
 clear hk
 have HI:=hD (fun W (h:Mk w0 W g M (.slice A1 s.ob.atoms.length c1) (.slice A2 s.ob.funs.length c2) (.slice A3 s.ob.preds.length c3) (.slice A4 s.ob.code.length c4) vq s)=>pfind_any A1 A2 A4 s.ob.atoms.length c1 s.ob.funs.length c2 s.ob.code.length c4 s.ob.preds hl.2.2 _ x n W h.at_.preds)
 go_enter Tryz.func75,Tryz.ntmps75
 go_upto_region 1 with(fail)
 obtain⟨w1,hw1⟩:∃ w1,w.alloc (.cells #[.string x,.int .i64 n] 61)=w1:=⟨_,rfl⟩
 obtain⟨gx,hgx⟩:∃ gx,w.heap.size=gx:=⟨_,rfl⟩
 rw [hw1] at HK1 X0 HB1 ⊢
 rw [hgx] at X0 ⊢
 clear hw1 hgx
 have c0:=HK1.out.box.cell 0
 have c1':=HK1.out.box.cell 1
 have c2':=HK1.out.box.cell 2
 have c3':=HK1.out.box.cell 3
 have d0:=X0.out.cell 0
 have d1:=X0.out.cell 1
 by_cases hx:findFrom x n 0 s.ob.preds<0
 ·have HE:Hid (predStep s.ob (x,n)=((s.ob.preds.length:Int),{ s.ob with preds:=s.ob.preds ++ [(x,n,65535)] })):=hD (by unfold predStep;rw [if_pos hx])
  generalize findFrom x n 0 s.ob.preds=r at HI hx
  go_cut [5] (fun i wc=>i=.int .i64 r∧Hid (Mk w0 wc g M (.slice A1 s.ob.atoms.length c1) (.slice A2 s.ob.funs.length c2) (.slice A3 s.ob.preds.length c3) (.slice A4 s.ob.code.length c4) vq s)∧Hid (Box wc gx 61 #[.string x,.int .i64 n])∧Hid (Below w.heap.size w wc))
  case first=>
   go_region_law (go_simp;go_at_call 106;refine(HI.out _ (HK1.out.drewN 1)).mono ?_;rintro e w2 ⟨rfl,hb2⟩;have HK2:=hD ((HK1.out.drewN 1).up hb2);have X2:=hD ((X0.out.drewN 1).below hb2 X0.out.lt);have HB2:=hD ((zo HB1.out 1).trans (hb2.mono (zo HB1.out 1).size));clear hb2)
   all_goals
    go_wp2
    go_meet
    exact⟨rfl,HK2,X2,HB2⟩
  case rest=>
  obtain⟨rfl,HK2,X2,HB2⟩:=hcut
  clear HK1 X0 c0 c1' c2' c3' d0 d1
  have c0:=HK2.out.box.cell 2
  have d0:=X2.out.cell 0
  have d1:=X2.out.cell 1
  go_upto_region 4 with(fail)
  have c0a:=fun oo=>(HK2.out.box.alloc oo).cell 2
  obtain⟨v6,w6,hr6,HA6⟩:=zp1 slPred (HK2.out.drewN 1).rp [.string x,.int .i64 n,.int .i64 65535] rfl (by intro u hu;simp only [List.mem_cons,List.not_mem_nil,or_false] at hu;rcases hu with rfl | rfl | rfl <;> rfl) hl.2.2 (HK2.out.drewN 1).below.size 32
  obtain⟨A6,c6,hv6⟩:=HA6.out.form
  subst hv6
  obtain⟨hT6,z0,z1⟩:=(HK2.out.drewN 1).putp HA6.out
  have HF6:=hD ((MkF.below (zo HB2.out 1)).trans (MkF.putp (g:=g) (M:=M) (va:=.slice A1 s.ob.atoms.length c1) (vf:=.slice A2 s.ob.funs.length c2) (vc:=.slice A4 s.ob.code.length c4) (vq:=vq) HA6.out))
  have HT6:=hD hT6
  have HR6:=hD hr6
  clear hr6 hT6 HA6
  go_region_law (refine zi HR6.out rfl _ _ rfl rfl rfl ?_)
  all_goals
   go_wp2
   go_ret
   exact⟨_,by rw [HE.out];rfl,by rw [HE.out];exact HT6.out,HF6.out⟩
 ·have HE:Hid (predStep s.ob (x,n)=(findFrom x n 0 s.ob.preds,s.ob)):=hD (by unfold predStep;rw [if_neg hx])
  generalize findFrom x n 0 s.ob.preds=r at HI hx HE
  go_region_law (go_simp;go_at_call 106;refine(HI.out _ (HK1.out.drewN 1)).mono ?_;rintro e w2 ⟨rfl,hb2⟩;have HK2:=hD ((HK1.out.drewN 1).up hb2);have HB2:=hD ((zo HB1.out 1).trans (hb2.mono (zo HB1.out 1).size));clear hb2)
  all_goals
   go_wp2
   go_ret
   exact⟨_,by rw [HE.out];rfl,by rw [HE.out];exact HK2.out,MkF.below HB2.out⟩
theorem mfull_any (w0:World) (g M:Nat) (va vf vp vc vq:Value) (s:St) (w:World) (hk:Mk w0 w g M va vf vp vc vq s) :
  Calls Tryz.prog 20 #[.pointer (some ⟨g,0,none⟩)] w fun e w'=>e=.returned (.bool (bigO s.ob))∧w=w':=by
 obtain⟨A1,c1,hva,_⟩:=zl hk.ra
 obtain⟨A2,c2,hvf,_⟩:=zl hk.rf
 obtain⟨A3,c3,hvp,_⟩:=zl hk.rp
 obtain⟨A4,c4,hvc,_⟩:=zl hk.rc
 subst hva hvf hvp hvc
 have q0:=hk.box.cell 0
 have q1:=hk.box.cell 1
 have q2:=hk.box.cell 2
 have q3:=hk.box.cell 3
 have HB:Hid (bigO s.ob=decide (256<s.ob.atoms.length ∨ 256<s.ob.funs.length ∨ 64<s.ob.preds.length ∨ 1024<s.ob.code.length)):=hD rfl
 generalize bigO s.ob=r at HB
 generalize s.ob.atoms.length=n0 at q0 HB
 generalize s.ob.funs.length=n1 at q1 HB
 generalize s.ob.preds.length=n2 at q2 HB
 generalize s.ob.code.length=n3 at q3 HB
 clear hk
 by_cases h0:(256:Int)<(n0:Int)
 ·have HX:Hid (r=true):=hD (by rw [HB.out];simp;omega)
  go_enter Tryz.func20,Tryz.ntmps20
  go_wp2
  go_ret
  exact⟨by rw [HX.out];rfl,rfl⟩
 by_cases h1:(256:Int)<(n1:Int)
 ·have HX:Hid (r=true):=hD (by rw [HB.out];simp;omega)
  go_enter Tryz.func20,Tryz.ntmps20
  go_wp2
  go_ret
  exact⟨by rw [HX.out];rfl,rfl⟩
 by_cases h2:(64:Int)<(n2:Int)
 ·have HX:Hid (r=true):=hD (by rw [HB.out];simp;omega)
  go_enter Tryz.func20,Tryz.ntmps20
  go_wp2
  go_ret
  exact⟨by rw [HX.out];rfl,rfl⟩
 by_cases h3:(1024:Int)<(n3:Int)
 ·have HX:Hid (r=true):=hD (by rw [HB.out];simp;omega)
  go_enter Tryz.func20,Tryz.ntmps20
  go_wp2
  go_ret
  exact⟨by rw [HX.out];rfl,rfl⟩
 have HX:Hid (r=false):=hD (by rw [HB.out];simp;omega)
 go_enter Tryz.func20,Tryz.ntmps20
 go_wp2
 go_ret
 exact⟨by rw [HX.out];rfl,rfl⟩
end Go.Proofs.YtlmbiafloiompaaGreatDoor
