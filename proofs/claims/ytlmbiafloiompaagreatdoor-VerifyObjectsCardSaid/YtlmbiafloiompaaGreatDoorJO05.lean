/-
  10 texts in one (ObjF CrcA ObjG ObjH ObjI ObjJ ObjK ObjN ObjP ObjQ). Conditions: those of each theorem.
-/
import Derived.Test.YtlmbiafloiompaaGreatDoorJO04
import Derived.Test.YtlmbiafloiompaaGreatDoorJO01
import Derived.Test.YtlmbiafloiompaaGreatDoorProg
import Derived.IntWalk
import Derived.Lib.Hide
import Derived.Deep.RegionWith
import Derived.Lib.SlBytesConst
import Derived.Laws.IdiomStrings
import Derived.Deep.QuietTactic
import Derived.BigQuiet
import Derived.Deep.RegionLaw
set_option linter.unusedVariables false
set_option linter.unusedSimpArgs false
namespace Go.Proofs.YtlmbiafloiompaaGreatDoor
open Go Go.RowKit Go.WideShapes Go.ChangeShapes
structure ObWf (o:Ob):Prop where
 atoms:∀ s ∈ o.atoms,s.size≤maxLen
 funs:∀ f ∈ o.funs,f.1.size≤maxLen
 preds:∀ p ∈ o.preds,p.1.size≤maxLen
 la:o.atoms.length≤1000000
 lf:o.funs.length≤1000000
 lp:o.preds.length≤1000000
 lc:o.code.length≤1000000
structure CkB (w wr:World) (g:Nat) (va vf vp vc:Value):Prop where
 ob:Box wr g 35 #[va,vf,vp,vc]
 below:Below w.heap.size w wr
theorem CkB.up {w wr w':World} {g:Nat} {va vf vp vc:Value} (h:CkB w wr g va vf vp vc) (hb:Below wr.heap.size wr w'):CkB w w' g va vf vp vc:=⟨h.ob.below hb h.ob.lt,h.below.trans (hb.mono h.below.size)⟩
theorem CkB.cells {w wr:World} {g:Nat} {va vf vp vc:Value} (h:CkB w wr g va vf vp vc):wr.cell? ⟨g,0,none⟩=some va∧wr.cell? ⟨g,1,none⟩=some vf∧wr.cell? ⟨g,2,none⟩=some vp∧wr.cell? ⟨g,3,none⟩=some vc:=
 ⟨h.ob.cell 0,h.ob.cell 1,h.ob.cell 2,h.ob.cell 3⟩
theorem wf_small {n:Int} (h0:0≤n) (h1:n≤8):(Lit.int .i64 n).wf=true:=by
 have:n=0 ∨ n=1 ∨ n=2 ∨ n=3 ∨ n=4 ∨ n=5 ∨ n=6 ∨ n=7 ∨ n=8:=by omega
 rcases this with rfl | rfl | rfl | rfl | rfl | rfl | rfl | rfl | rfl <;> rfl
theorem zd18 {least:Int} (h0:0≤least) {l:List (ByteArray × Int)} (hs:∀ f ∈ l,f.1.size≤maxLen) (h:l.all (funOk least)=true):∀ f ∈ l,f.1.size≤maxLen∧(Lit.int .i64 f.2).wf=true:=by
 intro f hf
 have h1:=List.all_eq_true.1 h f hf
 unfold funOk at h1
 simp only [Bool.and_eq_true,decide_eq_true_eq] at h1
 exact⟨hs f hf,wf_small (by omega) h1.2⟩
theorem zz7 {o:Ob} (h:ObWf o):∀ f ∈ o.preds.map called,f.1.size≤maxLen:=by
 intro f hf
 obtain⟨p,hp,rfl⟩:=List.mem_map.1 hf
 exact h.preds p hp
theorem ne_zero {n:Int} (h:n≠0):(n != 0)=true:=by simpa using h
theorem za8 (a f p c:Nat) (l:List Ins) (k:Nat) (h:k<l.length):codeErr a f p c (l.drop k)=if insErr a f p c l[k]=0 then codeErr a f p c (l.drop (k+1)) else insErr a f p c l[k]:=by
 rw [List.drop_eq_getElem_cons h,codeErr]
set_option maxRecDepth 100000 in
set_option maxHeartbeats 8000000 in
theorem check_any (o:Ob) (ho:ObWf o) (va vf vp vc:Value) (w:World) (hw:NamesAt w) (hv:ObAt w va vf vp vc o) :
  Calls Tryz.prog 22 #[.agg #[va,vf,vp,vc]] w fun e w'=>e=.returned (.int .i64 (checkOf o))∧Below w.heap.size w w':=by
 obtain⟨A1,c1,rfl⟩:=CellsAt.form hv.atoms
 obtain⟨A2,c2,rfl⟩:=CellsAt.form hv.funs
 obtain⟨A3,c3,rfl⟩:=CellsAt.form hv.preds
 obtain⟨A4,c4,rfl⟩:=CellsAt.form hv.code
 have HV:=hD hv
 have HW:=hD hw
 have HWF:=hD ho
 have HK0:=hD (⟨Box.new w _ _,za w _⟩:CkB w (w.alloc (.cells #[.slice A1 o.atoms.length c1,.slice A2 o.funs.length c2,.slice A3 o.preds.length c3,.slice A4 o.code.length c4] 35)) w.heap.size (.slice A1 o.atoms.length c1) (.slice A2 o.funs.length c2) (.slice A3 o.preds.length c3) (.slice A4 o.code.length c4))
 have HL:Hid (o.atoms.length≤1000000∧o.funs.length≤1000000∧o.preds.length≤1000000∧o.code.length≤1000000):=hD ⟨ho.la,ho.lf,ho.lp,ho.lc⟩
 have HFULL:=hD (fun w=>full_any o.atoms.length o.funs.length o.preds.length o.code.length w)
 have HCH:Hid (checkOf o=if bigB o.atoms.length o.funs.length o.preds.length o.code.length then 2 else if namesOk o=false then 7 else if dupB o then 11 else if entsOk o.code.length (o.preds.map entOf)=false then 7 else codeErr o.atoms.length o.funs.length o.preds.length o.code.length o.code):=hD rfl
 generalize checkOf o=ck at HCH
 have HMA:=hD ho.la
 have HMF:=hD ho.lf
 have HMP:=hD ho.lp
 have HMC:=hD ho.lc
 clear hv hw ho
 cases hbig:bigB o.atoms.length o.funs.length o.preds.length o.code.length
 case true=>
  have HX:Hid (ck=2):=hD (by rw [HCH.out,hbig];rfl)
  rw [hbig] at HFULL
  clear hbig
  go_enter Tryz.func22,Tryz.ntmps22
  go_wp2_with (go_at_call 43;refine(HFULL.out _).mono ?_;rintro e w' ⟨rfl,rfl⟩)
  go_ret
  exact⟨by rw [HX.out];rfl,HK0.out.below⟩
 case false=>
  have hc1024:o.code.length≤1024:=by
   unfold bigB at hbig
   rw [decide_eq_false_iff_not] at hbig
   omega
  have HC1024:=hD hc1024
  have HCH2:Hid (ck=if namesOk o=false then 7 else if dupB o then 11 else if entsOk o.code.length (o.preds.map entOf)=false then 7 else codeErr o.atoms.length o.funs.length o.preds.length o.code.length o.code):=hD (by rw [HCH.out,hbig];rfl)
  rw [hbig] at HFULL
  clear hbig HCH hc1024
  go_enter Tryz.func22,Tryz.ntmps22
  go_upto_region 3 with(go_at_call 43;refine(HFULL.out _).mono ?_;rintro e w' ⟨rfl,rfl⟩)
  obtain⟨w1,hw1⟩:∃ w1,w.alloc (.cells #[.slice A1 o.atoms.length c1,.slice A2 o.funs.length c2,.slice A3 o.preds.length c3,.slice A4 o.code.length c4] 35)=w1:=⟨_,rfl⟩
  rw [hw1] at HK0 ⊢
  obtain⟨g,hg⟩:∃ g,w.heap.size=g:=⟨_,rfl⟩
  rw [hg] at HK0 ⊢
  have HG:=hD hg
  clear hw1 hg
  have HK:=HK0
  obtain⟨q0,q1,q2,q3⟩:=HK.out.cells
  clear HK0
  have hNA:=fun(w':World) v h=>zt13 o.atoms HWF.out.atoms HMA.out v w' h
  have hF1:=fun(w':World) v h=>zf9 1 o.funs HWF.out.funs HMF.out v w' h
  have hF0:=fun(w':World) v h=>zf9 0 (o.preds.map called) (zz7 HWF.out) (by rw [List.length_map];exact HMP.out) v w' h
  have HNO:Hid (namesOk o=(o.atoms.all nameOk && o.funs.all (funOk 1) && (o.preds.map called).all (funOk 0))):=hD rfl
  cases h1:o.atoms.all nameOk
  case false=>
   rw [h1] at hNA
   have HNA:=hD hNA
   have HX:Hid (ck=7):=hD (by rw [HCH2.out,HNO.out,h1];rfl)
   clear hNA hF1 hF0 h1
   go_wp2_with (go_at_call 44;refine(HNA.out _ _ (HV.out.below HK.out.below).atoms).mono ?_;rintro e w' ⟨rfl,rfl⟩)
   go_ret
   exact⟨by rw [HX.out];rfl,HK.out.below⟩
  case true=>
  rw [h1] at hNA
  have HNA:=hD hNA
  cases h2:o.funs.all (funOk 1)
  case false=>
   rw [h2] at hF1
   have HF1:=hD hF1
   have HX:Hid (ck=7):=hD (by rw [HCH2.out,HNO.out,h1,h2];rfl)
   clear hNA hF1 hF0 h1 h2
   go_wp2_with (first
    | (go_at_call 44;refine(HNA.out _ _ (HV.out.below HK.out.below).atoms).mono ?_;rintro e w' ⟨rfl,rfl⟩)
    | (go_at_call 45;(with_reducible refine(HF1.out _ _ (HV.out.below HK.out.below).funs).mono ?_);rintro e w5 ⟨rfl,hb5⟩;replace HK:=hD (HK.out.up hb5);obtain⟨q0,q1,q2,q3⟩:=HK.out.cells;clear hb5))
   go_ret
   exact⟨by rw [HX.out];rfl,HK.out.below⟩
  case true=>
  rw [h2] at hF1
  have HF1:=hD hF1
  cases h3:(o.preds.map called).all (funOk 0)
  case false=>
   rw [h3] at hF0
   have HF0:=hD hF0
   have HX:Hid (ck=7):=hD (by rw [HCH2.out,HNO.out,h1,h2,h3];rfl)
   clear hNA hF1 hF0 h1 h2 h3
   go_wp2_with (first
    | (go_at_call 44;refine(HNA.out _ _ (HV.out.below HK.out.below).atoms).mono ?_;rintro e w' ⟨rfl,rfl⟩)
    | (go_at_call 45;(with_reducible refine(HF1.out _ _ (HV.out.below HK.out.below).funs).mono ?_);rintro e w5 ⟨rfl,hb5⟩;replace HK:=hD (HK.out.up hb5);obtain⟨q0,q1,q2,q3⟩:=HK.out.cells;clear hb5)
    | (go_at_call 46;(with_reducible refine(zd5 o.preds HMP.out _ _ (HV.out.below HK.out.below).preds).mono ?_);rintro e w5 ⟨v5,rfl,hv5,hb5⟩;have HV5:=hD hv5;clear hv5;replace HK:=hD (HK.out.up hb5);obtain⟨q0,q1,q2,q3⟩:=HK.out.cells;clear hb5)
    | (go_at_call 45;refine(HF0.out _ _ HV5.out).mono ?_;rintro e w5 ⟨rfl,hb5⟩;replace HK:=hD (HK.out.up hb5);obtain⟨q0,q1,q2,q3⟩:=HK.out.cells;clear hb5))
   go_ret
   exact⟨by rw [HX.out];rfl,HK.out.below⟩
  case true=>
  rw [h3] at hF0
  have HF0:=hD hF0
  have hTS:=fun(w':World) v h=>zi21 o.atoms HWF.out.atoms HMA.out v w' h
  have hT1:=fun(w':World) v h=>zm12 o.funs (zd18 (by decide) HWF.out.funs h2) HMF.out v w' h
  have hT0:=fun(w':World) v h=>zm12 (o.preds.map called) (zd18 (by decide) (zz7 HWF.out) h3) (by rw [List.length_map];exact HMP.out) v w' h
  have HCH3:Hid (ck=if dupB o then 11 else if entsOk o.code.length (o.preds.map entOf)=false then 7 else codeErr o.atoms.length o.funs.length o.preds.length o.code.length o.code):=hD (by rw [HCH2.out,HNO.out,h1,h2,h3];rfl)
  have HDO:Hid (dupB o=(twiceB o.atoms || twiceB o.funs || twiceB (o.preds.map called))):=hD rfl
  clear hNA hF1 hF0 h1 h2 h3 HNO HCH2
  go_upto_region 5 with(first
    | (go_at_call 44;refine(HNA.out _ _ (HV.out.below HK.out.below).atoms).mono ?_;rintro e w' ⟨rfl,rfl⟩)
    | (go_at_call 45;(with_reducible refine(HF1.out _ _ (HV.out.below HK.out.below).funs).mono ?_);rintro e w5 ⟨rfl,hb5⟩;replace HK:=hD (HK.out.up hb5);obtain⟨q0,q1,q2,q3⟩:=HK.out.cells;clear hb5)
    | (go_at_call 46;(with_reducible refine(zd5 o.preds HMP.out _ _ (HV.out.below HK.out.below).preds).mono ?_);rintro e w5 ⟨v5,rfl,hv5,hb5⟩;have HV5:=hD hv5;clear hv5;replace HK:=hD (HK.out.up hb5);obtain⟨q0,q1,q2,q3⟩:=HK.out.cells;clear hb5)
    | (go_at_call 45;refine(HF0.out _ _ HV5.out).mono ?_;rintro e w5 ⟨rfl,hb5⟩;replace HK:=hD (HK.out.up hb5);obtain⟨q0,q1,q2,q3⟩:=HK.out.cells;clear hb5))
  clear HNA HF1 HF0 HFULL
  cases h1:twiceB o.atoms
  case true=>
   rw [h1] at hTS
   have HTS:=hD hTS
   have HX:Hid (ck=11):=hD (by rw [HCH3.out,HDO.out,h1];rfl)
   clear hTS hT1 hT0 h1
   go_wp2_with (go_at_call 47;(with_reducible refine(HTS.out _ _ (HV.out.below HK.out.below).atoms).mono ?_);rintro e w5 ⟨rfl,hb5⟩;replace HK:=hD (HK.out.up hb5);obtain⟨q0,q1,q2,q3⟩:=HK.out.cells;clear hb5)
   go_ret
   exact⟨by rw [HX.out];rfl,HK.out.below⟩
  case false=>
  rw [h1] at hTS
  have HTS:=hD hTS
  cases h2:twiceB o.funs
  case true=>
   rw [h2] at hT1
   have HT1:=hD hT1
   have HX:Hid (ck=11):=hD (by rw [HCH3.out,HDO.out,h1,h2];rfl)
   clear hTS hT1 hT0 h1 h2
   go_wp2_with (first
    | (go_at_call 47;(with_reducible refine(HTS.out _ _ (HV.out.below HK.out.below).atoms).mono ?_);rintro e w5 ⟨rfl,hb5⟩;replace HK:=hD (HK.out.up hb5);obtain⟨q0,q1,q2,q3⟩:=HK.out.cells;clear hb5)
    | (go_at_call 48;(with_reducible refine(HT1.out _ _ (HV.out.below HK.out.below).funs).mono ?_);rintro e w5 ⟨rfl,hb5⟩;replace HK:=hD (HK.out.up hb5);obtain⟨q0,q1,q2,q3⟩:=HK.out.cells;clear hb5))
   go_ret
   exact⟨by rw [HX.out];rfl,HK.out.below⟩
  case false=>
  rw [h2] at hT1
  have HT1:=hD hT1
  cases h3:twiceB (o.preds.map called)
  case true=>
   rw [h3] at hT0
   have HT0:=hD hT0
   have HX:Hid (ck=11):=hD (by rw [HCH3.out,HDO.out,h1,h2,h3];rfl)
   clear hTS hT1 hT0 h1 h2 h3
   go_wp2_with (first
    | (go_at_call 47;(with_reducible refine(HTS.out _ _ (HV.out.below HK.out.below).atoms).mono ?_);rintro e w5 ⟨rfl,hb5⟩;replace HK:=hD (HK.out.up hb5);obtain⟨q0,q1,q2,q3⟩:=HK.out.cells;clear hb5)
    | (go_at_call 48;(with_reducible refine(HT1.out _ _ (HV.out.below HK.out.below).funs).mono ?_);rintro e w5 ⟨rfl,hb5⟩;replace HK:=hD (HK.out.up hb5);obtain⟨q0,q1,q2,q3⟩:=HK.out.cells;clear hb5)
    | (go_at_call 46;(with_reducible refine(zd5 o.preds HMP.out _ _ (HV.out.below HK.out.below).preds).mono ?_);rintro e w5 ⟨v5,rfl,hv5,hb5⟩;have HV5:=hD hv5;clear hv5;replace HK:=hD (HK.out.up hb5);obtain⟨q0,q1,q2,q3⟩:=HK.out.cells;clear hb5)
    | (go_at_call 48;refine(HT0.out _ _ HV5.out).mono ?_;rintro e w5 ⟨rfl,hb5⟩;replace HK:=hD (HK.out.up hb5);obtain⟨q0,q1,q2,q3⟩:=HK.out.cells;clear hb5))
   go_ret
   exact⟨by rw [HX.out];rfl,HK.out.below⟩
  case false=>
  rw [h3] at hT0
  have HT0:=hD hT0
  have HCH4:Hid (ck=if entsOk o.code.length (o.preds.map entOf)=false then 7 else codeErr o.atoms.length o.funs.length o.preds.length o.code.length o.code):=hD (by rw [HCH3.out,HDO.out,h1,h2,h3];rfl)
  have hEN:=fun(w':World) h=>zf16 A1 A2 A4 o.atoms.length c1 o.funs.length c2 o.code.length c4 o.preds HMP.out HC1024.out (.slice A3 o.preds.length c3) w' h
  clear hTS hT1 hT0 h1 h2 h3 HDO HCH3
  go_upto_region 7 with(first
    | (go_at_call 47;(with_reducible refine(HTS.out _ _ (HV.out.below HK.out.below).atoms).mono ?_);rintro e w5 ⟨rfl,hb5⟩;replace HK:=hD (HK.out.up hb5);obtain⟨q0,q1,q2,q3⟩:=HK.out.cells;clear hb5)
    | (go_at_call 48;(with_reducible refine(HT1.out _ _ (HV.out.below HK.out.below).funs).mono ?_);rintro e w5 ⟨rfl,hb5⟩;replace HK:=hD (HK.out.up hb5);obtain⟨q0,q1,q2,q3⟩:=HK.out.cells;clear hb5)
    | (go_at_call 46;(with_reducible refine(zd5 o.preds HMP.out _ _ (HV.out.below HK.out.below).preds).mono ?_);rintro e w5 ⟨v5,rfl,hv5,hb5⟩;have HV5:=hD hv5;clear hv5;replace HK:=hD (HK.out.up hb5);obtain⟨q0,q1,q2,q3⟩:=HK.out.cells;clear hb5)
    | (go_at_call 48;refine(HT0.out _ _ HV5.out).mono ?_;rintro e w5 ⟨rfl,hb5⟩;replace HK:=hD (HK.out.up hb5);obtain⟨q0,q1,q2,q3⟩:=HK.out.cells;clear hb5))
  clear HTS HT1 HT0
  cases h1:entsOk o.code.length (o.preds.map entOf)
  case false=>
   rw [h1] at hEN
   have HEN:=hD hEN
   have HX:Hid (ck=7):=hD (by rw [HCH4.out,h1];rfl)
   clear hEN h1
   go_wp2_with (go_at_call 49;refine(HEN.out _ (HV.out.below HK.out.below).preds).mono ?_;rintro e w5 ⟨rfl,hb5⟩;replace HK:=hD (HK.out.up hb5);obtain⟨q0,q1,q2,q3⟩:=HK.out.cells;clear hb5)
   go_ret
   exact⟨by rw [HX.out];rfl,HK.out.below⟩
  case true=>
  rw [h1] at hEN
  have HEN:=hD hEN
  have HCH5:Hid (ck=codeErr o.atoms.length o.funs.length o.preds.length o.code.length o.code):=hD (by rw [HCH4.out,h1];rfl)
  clear hEN h1 HCH4
  go_upto_region 9 with(go_at_call 49;refine(HEN.out _ (HV.out.below HK.out.below).preds).mono ?_;rintro e w5 ⟨rfl,hb5⟩;replace HK:=hD (HK.out.up hb5);obtain⟨q0,q1,q2,q3⟩:=HK.out.cells;clear hb5)
  clear HEN
  go_wp2
  go_loopw [66] (fun i wr=>∃ k:Nat,k≤o.code.length∧i=.int .i64 k∧Hid (CkB w wr g (.slice A1 o.atoms.length c1) (.slice A2 o.funs.length c2) (.slice A3 o.preds.length c3) (.slice A4 o.code.length c4))∧Hid (codeErr o.atoms.length o.funs.length o.preds.length o.code.length (o.code.drop k)=ck)) (fun i _=>o.code.length - (intOf i).toNat)
  case atStart=>exact⟨0,by omega,rfl,HK,hD (by rw [HCH5.out];rfl)⟩
  case round=>
   obtain⟨k,hk,rfl,HKR,HCE⟩:=hrel
   clear q0 q1 q2 q3 HK
   have hlc:=HMC.out
   by_cases hlt:k<o.code.length
   ·obtain⟨b,off,rfl,hb,hc0,hc1,hc2,hc3,hc4⟩:=zm3 HV.out.code k hlt
    have d0:=(HKR.out.below.cell (p:=⟨b,off+k * 5,none⟩) hb).trans hc0
    have d1:=(HKR.out.below.cell (p:=⟨b,off+k * 5+1,none⟩) hb).trans hc1
    have d2:=(HKR.out.below.cell (p:=⟨b,off+k * 5+2,none⟩) hb).trans hc2
    have d3:=(HKR.out.below.cell (p:=⟨b,off+k * 5+3,none⟩) hb).trans hc3
    have d4:=(HKR.out.below.cell (p:=⟨b,off+k * 5+4,none⟩) hb).trans hc4
    have HST:=hD (za8 o.atoms.length o.funs.length o.preds.length o.code.length o.code k hlt)
    have hCI:=fun w' hw=>zy10 A1 A2 A3 (some ⟨b,off,none⟩) o.atoms.length c1 o.funs.length c2 o.preds.length c3 o.code.length c4 o.code[k] w' hw
    clear hc0 hc1 hc2 hc3 hc4
    generalize insErr o.atoms.length o.funs.length o.preds.length o.code.length o.code[k]=ie at HST hCI
    generalize o.code[k].1=i0 at d0 hCI
    generalize o.code[k].2.1=i1 at d1 hCI
    generalize o.code[k].2.2.1=i2 at d2 hCI
    generalize o.code[k].2.2.2.1=i3 at d3 hCI
    generalize o.code[k].2.2.2.2=i4 at d4 hCI
    have HKA:=hD (HKR.out.up (za wr (.cells #[.int .i64 i0,.int .i64 i1,.int .i64 i2,.int .i64 i3,.int .i64 i4] 65)))
    have HNM:=hD (HW.out.below HKA.out.below HW.out.lt)
    obtain⟨r0,r1,r2,r3⟩:=HKA.out.cells
    have HCI:=hD hCI
    clear hCI
    by_cases hz:ie=0
    ·subst hz
     have HCE2:Hid (codeErr o.atoms.length o.funs.length o.preds.length o.code.length (o.code.drop (k+1))=ck):=hD (by rw [← HCE.out,HST.out,if_pos rfl])
     go_wp2_with (go_at_call 50;refine(HCI.out _ HNM.out).mono ?_;rintro e w5 ⟨rfl,hb5⟩;have HK5:=hD (HKA.out.up hb5);clear hb5)
     go_roundw
     case rel=>exact⟨k+1,by omega,by go_num,HK5,HCE2⟩
     case measure=>simp [intOf];omega
    ·have HX:Hid (ck=ie):=hD (by rw [← HCE.out,HST.out,if_neg hz])
     have hnz:=ne_zero hz
     have hnz2:(ie == 0)=false:=by simpa using hz
     clear hz
     go_wp2_with (go_at_call 50;refine(HCI.out _ HNM.out).mono ?_;rintro e w5 ⟨rfl,hb5⟩;have HK5:=hD (HKA.out.up hb5);clear hb5)
     go_ret
     exact⟨by rw [HX.out];rfl,HK5.out.below⟩
   ·obtain rfl:k=o.code.length:=by omega
    have HX:Hid (ck=0):=hD (by rw [← HCE.out,List.drop_length];rfl)
    go_wp2
    go_ret
    exact⟨by rw [HX.out];rfl,HKR.out.below⟩
def BysAt (w:World) (v:Value) (l:List Nat):Prop:=
 (l=[]∧∃ A c,v=.slice A 0 c) ∨
  ∃ b off c,v=.slice (some ⟨b,off,none⟩) l.length c∧∀ k,k<l.length→w.cell? ⟨b,off+k,none⟩=some (.int .u8 ((l.getD k 0:Nat):Int))
def bysV (l:List Nat):List Value:=l.map fun c=>Value.int .u8 ((c:Nat):Int)
def Strict (w:World) (base:Nat) (v:Value) (l:List Nat):Prop:=w.ownsRow base 5 1 v l.length (bysV l)
def Marked (w:World) (base:Nat) (v:Value) (l:List Nat):Prop:=
 0<l.length∧∃ g cur fz,v=.slice (some ⟨g,0,none⟩) l.length l.length∧base≤g∧w.heap[g]?=some (.cells cur 5 fz)∧cur.toList=bysV l
def Row (w:World) (base:Nat) (v:Value) (l:List Nat):Prop:=Strict w base v l ∨ Marked w base v l
theorem Row.ge {w:World} {base:Nat} {v:Value} {l:List Nat} (h:Row w base v l) {b:Nat} (hb:v.ownBlock=some b):base≤b∧b<w.heap.size:=by
 rcases h with h | ⟨_,g,cur,fz,rfl,hg,hh,_⟩
 ·exact own_ge h hb
 ·obtain rfl:g=b:=by simpa [Value.ownBlock] using hb
  exact⟨hg,(Array.getElem?_eq_some_iff.1 hh).1⟩
theorem Row.form {w:World} {base:Nat} {v:Value} {l:List Nat} (h:Row w base v l):∃ A c,v=.slice A l.length c:=by
 rcases h with h | ⟨_,g,cur,fz,rfl,_⟩
 ·obtain⟨A,c,h,_⟩:=zl h
  exact⟨A,c,h⟩
 ·exact⟨_,_,rfl⟩
theorem Row.fr {w w':World} {S:Nat→Prop} {base:Nat} {v:Value} {l:List Nat} (h:Row w base v l) (hf:Fr S w w') (hn:∀ k,v.ownBlock=some k→¬ S k):Row w' base v l:=by
 rcases h with h | ⟨h0,g,cur,fz,rfl,hg,hh,hc⟩
 ·exact .inl (own_fr h hf hn)
 ·exact .inr ⟨h0,g,cur,fz,rfl,hg,(hf.block g (Array.getElem?_eq_some_iff.1 hh).1 (hn g rfl)).trans hh,hc⟩
structure Grows (w w':World) (base:Nat) (v v':Value) (l:List Nat):Prop where
 own:Row w' base v' l
 fr:Fr (fun b=>v.ownBlock=some b) w w'
 at_:v'.ownBlock=v.ownBlock ∨ ∃ g,v'.ownBlock=some g∧w.heap.size≤g
theorem Grows.refl {w:World} {base:Nat} {v:Value} {l:List Nat} (h:Row w base v l):Grows w w base v v l:=⟨h,Fr.refl _ _,.inl rfl⟩
theorem Grows.trans {w w' w'':World} {base:Nat} {v v' v'':Value} {l m:List Nat} (h:Grows w w' base v v' l) (k:Grows w' w'' base v' v'' m):Grows w w'' base v v'' m:=by
 refine⟨k.own,⟨k.fr.os.trans h.fr.os,k.fr.tape.trans h.fr.tape,k.fr.output.trans h.fr.output,Nat.le_trans h.fr.size k.fr.size,fun i hi hs=>(k.fr.block i (Nat.lt_of_lt_of_le hi h.fr.size) (fun hv=>?_)).trans (h.fr.block i hi hs)⟩,?_⟩
 ·rcases h.at_ with e2 | ⟨g,e2,hg⟩
  ·exact hs (e2.symm.trans hv)
  ·rw [e2] at hv
   injection hv with hv
   omega
 ·rcases k.at_ with e1 | ⟨g,e1,hg⟩
  ·rcases h.at_ with e2 | ⟨g,e2,hg⟩
   ·exact .inl (e1.trans e2)
   ·exact .inr ⟨g,e1.trans e2,hg⟩
  ·exact .inr ⟨g,e1,Nat.le_trans h.fr.size hg⟩
theorem Grows.form {w w':World} {base:Nat} {v v':Value} {l:List Nat} (h:Grows w w' base v v' l):∃ A c,v'=.slice A l.length c:=by
 exact h.own.form
theorem Grows.below {w w':World} {base:Nat} {v v':Value} {l m:List Nat} (h:Grows w w' base v v' l) (ho:Row w base v m) (hb:base≤w.heap.size):Below base w w':=
 h.fr.below hb (fun k hk=>(ho.ge hk).1)
theorem Row.alloc {w:World} {base:Nat} {v:Value} {l:List Nat} (h:Row w base v l) (o:Obj):Row (w.alloc o) base v l:=Row.fr (S:=fun _=>False) h ((Fr.refl _ w).alloc _) (fun _ _ x=>x)
theorem Row.below {w w':World} {base:Nat} {v:Value} {l:List Nat} (h:Row w base v l) (hb:Below w.heap.size w w'):Row w' base v l:=Row.fr (S:=fun _=>False) h (Fr.of_below hb) (fun _ _ x=>x)
theorem Grows.of_below {w w1 w':World} {base:Nat} {v v':Value} {l:List Nat} (hb:Below w.heap.size w w1) (h:Grows w1 w' base v v' l):Grows w w' base v v' l:=
 ⟨h.own,(Fr.of_below hb).trans h.fr,h.at_.imp id fun⟨g,h1,h2⟩=>⟨g,h1,Nat.le_trans hb.size h2⟩⟩
theorem Grows.box {w w':World} {base:Nat} {v v':Value} {l:List Nat} (h:Grows w w' base v v' l) {g:Nat} {t:TypeId} {cs:Array Value} (hb:Box w g t cs) (hn:v.ownBlock≠some g):Box w' g t cs∧v'.ownBlock≠some g:=by
 refine⟨hb.fr h.fr hn,?_⟩
 rcases h.at_ with e | ⟨g',e,hg⟩
 ·rw [e];exact hn
 ·rw [e]
  intro x
  injection x with x
  have:=hb.lt
  omega
def InsBox (w:World) (g:Nat) (i:Ins):Prop:=Box w g 65 #[.int .i64 i.1,.int .i64 i.2.1,.int .i64 i.2.2.1,.int .i64 i.2.2.2.1,.int .i64 i.2.2.2.2]
theorem InsBox.arg {w:World} {g:Nat} {i:Ins} (h:InsBox w g i) (k:Nat) (hk:k<4):w.cell? ⟨g,1+k,none⟩=some (.int .i64 ((argOf i).getD k 0)):=by
 rw [Box.cell h (1+k)]
 match k,hk with
 | 0,_=>rfl
 | 1,_=>rfl
 | 2,_=>rfl
 | 3,_=>rfl
structure ObOk (o:Ob):Prop where
 la:o.atoms.length≤256
 lf:o.funs.length≤256
 lp:o.preds.length≤64
 lc:o.code.length≤1024
 atoms:∀ s ∈ o.atoms,nameOk s=true
 funs:∀ f ∈ o.funs,nameOk f.1=true∧1≤f.2∧f.2≤8
 preds:∀ p ∈ o.preds,nameOk p.1=true∧0≤p.2.1∧p.2.1≤8∧(p.2.2=65535 ∨ (0≤p.2.2∧p.2.2<o.code.length))
 code:∀ i ∈ o.code,insErr o.atoms.length o.funs.length o.preds.length o.code.length i=0
theorem name_size {s:ByteArray} (h:nameOk s=true):1≤s.size∧s.size≤32:=by
 unfold nameOk at h
 simp only [Bool.and_eq_true,decide_eq_true_eq] at h
 exact h.1.1
theorem zb8 {a f p c:Nat}:∀ {l:List Ins},codeErr a f p c l=0→∀ i ∈ l,insErr a f p c i=0
 | [],_=>by simp
 | x :: l,h=>by
  unfold codeErr at h
  split at h
  ·rename_i hx
   intro i hi
   rcases List.mem_cons.1 hi with rfl | hi
   ·exact hx
   ·exact zb8 h i hi
  ·rename_i hx
   exact absurd h hx
theorem ok_of {o:Ob} (h:checkOf o=0):ObOk o:=by
 unfold checkOf at h
 split at h
 ·cases h
 ·rename_i h1
  split at h
  ·cases h
  ·rename_i h2
   split at h
   ·cases h
   ·split at h
    ·cases h
    ·rename_i h4
     have hb:¬ (256<o.atoms.length ∨ 256<o.funs.length ∨ 64<o.preds.length ∨ 1024<o.code.length):=by
      intro hb
      apply h1
      unfold bigB
      exact decide_eq_true hb
     have hn:namesOk o=true:=by
      cases hh:namesOk o
      ·exact absurd hh h2
      ·rfl
     have he:entsOk o.code.length (o.preds.map (·.2.2))=true:=by
      cases hh:entsOk o.code.length (o.preds.map (·.2.2))
      ·exact absurd hh h4
      ·rfl
     unfold namesOk at hn
     simp only [Bool.and_eq_true,List.all_eq_true] at hn
     unfold entsOk at he
     simp only [Bool.and_eq_true,List.all_eq_true] at he
     refine⟨by omega,by omega,by omega,by omega,hn.1.1,fun f hf=>?_,fun p hp=>?_,zb8 h⟩
     ·have:=hn.1.2 f hf
      unfold funOk at this
      simp only [Bool.and_eq_true,decide_eq_true_eq] at this
      exact⟨this.1.1,this.1.2,this.2⟩
     ·have h5:=hn.2 (called p) (List.mem_map_of_mem hp)
      unfold funOk called at h5
      simp only [Bool.and_eq_true,decide_eq_true_eq] at h5
      have h6:=he.1 p.2.2 (List.mem_map.2 ⟨p,hp,rfl⟩)
      unfold entryOk at h6
      exact⟨h5.1.1,h5.1.2,h5.2,of_decide_eq_true h6⟩
theorem BysAt.below {w w':World} {v:Value} {l:List Nat} (h:BysAt w v l) (hb:Below w.heap.size w w'):BysAt w' v l:=by
 rcases h with h | ⟨b,off,c,rfl,hc⟩
 ·exact .inl h
 ·exact .inr ⟨b,off,c,rfl,fun k hk=>(hb.cell (p:=⟨b,off+k,none⟩) (World.block_lt_of_cell? w _ (hc k hk))).trans (hc k hk)⟩
structure Ec (w wr:World) (g:Nat) (cs:Array Value) (vs:Value) (pre:List Nat):Prop where
 row:Row wr w.heap.size vs pre
 box:Box wr g 35 cs
 ne:vs.ownBlock≠some g
 below:Below w.heap.size w wr
theorem Ec.up {w wr w':World} {g:Nat} {cs:Array Value} {vs v':Value} {pre pre':List Nat} (h:Ec w wr g cs vs pre) (hg:Grows wr w' w.heap.size vs v' pre'):Ec w w' g cs v' pre':=
 ⟨hg.own,(hg.box h.box h.ne).1,(hg.box h.box h.ne).2,h.below.trans (hg.below h.row h.below.size)⟩
theorem Ec.cells {w wr:World} {g:Nat} {a b c d:Value} {vs:Value} {pre:List Nat} (h:Ec w wr g #[a,b,c,d] vs pre):wr.cell? ⟨g,0,none⟩=some a∧wr.cell? ⟨g,1,none⟩=some b∧wr.cell? ⟨g,2,none⟩=some c∧wr.cell? ⟨g,3,none⟩=some d:=
 ⟨h.box.cell 0,h.box.cell 1,h.box.cell 2,h.box.cell 3⟩
theorem Ec.pre {w wr:World} {g:Nat} {cs:Array Value} {vs:Value} {pre pre':List Nat} (h:Ec w wr g cs vs pre) (e:pre=pre'):Ec w wr g cs vs pre':=e ▸ h
def BysIn (w:World) (v:Value) (l:List Nat):Prop:=
 (l=[]∧v=.slice none 0 0) ∨
  ∃ b off c,v=.slice (some ⟨b,off,none⟩) l.length c∧l.length≤c∧c≤9223372036854775807∧b<w.heap.size∧∀ k,k<l.length→w.cell? ⟨b,off+k,none⟩=some (.int .u8 ((l.getD k 0:Nat):Int))
theorem BysIn.below {w w':World} {v:Value} {l:List Nat} (h:BysIn w v l) (hb:Below w.heap.size w w'):BysIn w' v l:=by
 rcases h with h | ⟨b,off,c,rfl,h1,h2,h3,hc⟩
 ·exact .inl h
 ·exact .inr ⟨b,off,c,rfl,h1,h2,Nat.lt_of_lt_of_le h3 hb.size,fun k hk=>(hb.cell (p:=⟨b,off+k,none⟩) h3).trans (hc k hk)⟩
theorem BysIn.form {w:World} {v:Value} {l:List Nat} (h:BysIn w v l):∃ A c,v=.slice A l.length c:=by
 rcases h with⟨rfl,rfl⟩ | ⟨b,off,c,rfl,_⟩
 ·exact⟨_,_,rfl⟩
 ·exact⟨_,_,rfl⟩
theorem slStr:SlT 22 9 1 16:=⟨Tryz.underlying22,⟨.string ⟨#[]⟩,by kernel_rfl,rfl⟩,by decide,by decide⟩
theorem slPred:SlT 32 64 3 32:=⟨Tryz.underlying32,⟨.agg #[.string ⟨#[]⟩,.int .i64 0,.int .i64 0],by kernel_rfl,rfl⟩,by decide,by decide⟩
theorem zi {P:Program} {ops:Array Oper} {o:Oper} {a:Act} {w:World} {K:Act→World→Prop} {Q:Exit→Act→World→Prop} {E:Prop} {t t2:TypeId} {v u v':Value} {w':World}
  (hr:(Builtin.append_ #[t,t2] o.type #[v,u]).run P w=.ok v' w') (hgd:o.guard=none) (s x:Operand)
  (ho:o.op=.call { callee:=.builtin .append,args:=#[s,x],argTypes:=#[t,t2] }) (hs:a.eval s=v) (hx:a.eval x=u)
  (h:K (a.put o.dst v') w') :
  if Region.wanted o (yielded ops a.tmps)=true then Oper.wp P o a w K Q else E:=by
 have hw:Region.wanted o (yielded ops a.tmps)=true:=by simp [Region.wanted,hgd]
 rw [if_pos hw]
 unfold Oper.wp execOp
 simp only [ho,resolve,invoke,builtin,Sem.run_bind,Sem.run_pure,Result.andThen_ok,List.map_toArray,List.map_cons,List.map_nil,hs,hx,hr]
 exact h
section
variable {w0 w1 wr w' w6:World} {R g:Nat} {r r':Rd} {va vf vp v6:Value} {la:List ByteArray} {lf:List (ByteArray × Int)} {lp:List (ByteArray × Int × Int)}
end
def Part {α:Type} (f:Rd→α × Rd) (n j:Nat) (r r':Rd) (l:List α):Prop:=l.length+j=n∧l ++ (manyR f j r').1=(manyR f n r).1∧(manyR f j r').2=(manyR f n r).2
theorem Part.start {α:Type} (f:Rd→α × Rd) (n:Nat) (r:Rd):Part f n n r r []:=⟨by simp,rfl,rfl⟩
theorem Part.step {α:Type} {f:Rd→α × Rd} {n j:Nat} {r r':Rd} {l:List α} (h:Part f n (j+1) r r' l):Part f n j r (f r').2 (l ++ [(f r').1]):=
 ⟨by have:=h.1;simp;omega,by rw [← h.2.1,manyR];simp,by rw [← h.2.2];rfl⟩
theorem Part.done {α:Type} {f:Rd→α × Rd} {n:Nat} {r r':Rd} {l:List α} (h:Part f n 0 r r' l):manyR f n r=(l,r'):=by
 refine Prod.ext ?_ h.2.2.symm
 have:=h.2.1
 rw [manyR,List.append_nil] at this
 exact this.symm
theorem slIns:SlT 33 65 5 40:=⟨Tryz.underlying33,⟨.agg #[.int .i64 0,.int .i64 0,.int .i64 0,.int .i64 0,.int .i64 0],by kernel_rfl,rfl⟩,by decide,by decide⟩
section
variable {w0 w wr w' w8 w6:World} {R g gO:Nat} {r r':Rd} {va vf vp vc v6:Value} {lc:List Ins}
end
theorem CellsAt.fr {w w':World} {S:Nat→Prop} {v:Value} {n:Nat} {cs:List Value} (h:CellsAt w v n cs) (hf:Fr S w w') (hn:∀ k,v.ownBlock=some k→¬ S k):CellsAt w' v n cs:=by
 rcases h with h | ⟨b,off,c,rfl,hl,hc⟩
 ·exact .inl h
 ·exact .inr ⟨b,off,c,rfl,Nat.lt_of_lt_of_le hl hf.size,fun k u hk=>(World.cell?_of_block (w:=w) (hf.block b hl (hn b rfl))).trans (hc k u hk)⟩
def PartC (n j:Nat) (r r':Rd) (l:List Ins):Prop:=l.length+j=n∧codeR n r=match codeR j r' with
 | none=>none
 | some (m,r'')=>some (l ++ m,r'')
theorem PartC.start (n:Nat) (r:Rd):PartC n n r r []:=⟨by simp,by cases codeR n r <;> rfl⟩
theorem PartC.step {n j:Nat} {r r' r2:Rd} {l:List Ins} {i:Ins} (h:PartC n (j+1) r r' l) (hi:insR r'=some (i,r2)):PartC n j r r2 (l ++ [i]):=by
 refine⟨by have:=h.1;simp;omega,?_⟩
 rw [h.2,codeR,hi]
 cases hc:codeR j r2 with
 | none=>simp [hc]
 | some x=>simp [hc]
theorem PartC.bad {n j:Nat} {r r':Rd} {l:List Ins} (h:PartC n (j+1) r r' l) (hi:insR r'=none):codeR n r=none:=by
 rw [h.2,codeR,hi]
theorem PartC.done {n:Nat} {r r':Rd} {l:List Ins} (h:PartC n 0 r r' l):codeR n r=some (l,r'):=by
 rw [h.2,codeR]
 simp
theorem bdrew1 (W:World):Below W.heap.size W W.drew:=⟨rfl,rfl,rfl,Nat.le_refl _,fun _ _=>rfl⟩
end Go.Proofs.YtlmbiafloiompaaGreatDoor
