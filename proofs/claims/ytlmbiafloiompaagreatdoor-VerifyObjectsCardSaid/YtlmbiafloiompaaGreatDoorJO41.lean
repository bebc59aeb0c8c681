/-
 The program's settleLabels,settle (walks). Conditions: tables of at most a million rows,operands as an int holds them.
-/
import Derived.Test.YtlmbiafloiompaaGreatDoorJO40
set_option linter.unusedVariables false
set_option linter.unusedSimpArgs false
namespace Go.Proofs.YtlmbiafloiompaaGreatDoor
open Go Go.RowKit Go.WideShapes Go.ChangeShapes
theorem zw3 (s:St) (i:Nat) (op:Int) (l:List Int):(codeAt s i op l).ob.code.length=s.ob.code.length:=by simp [codeAt]
theorem zc14 (s:St) (i:Nat) (op op':Int) (l l':List Int):codeAt (codeAt s i op l) i op' l'=codeAt s i op' l':=by simp [codeAt]
theorem ze16 (s:St) (i:Nat) (hi:i<s.ob.code.length):codeAt s i s.ob.code[i].1 (argOf s.ob.code[i])=s:=by
 unfold codeAt
 rw [zi16]
 simp
theorem Mk.cur_cell {w0 w:World} {g M gc cc:Nat} {va vf vp vq:Value} {s:St} {i:Nat} {op:Int} {l:List Int} (h:Mk w0 w g M va vf vp (.slice (some ⟨gc,0,none⟩) s.ob.code.length cc) vq (codeAt s i op l)) (hi:i<s.ob.code.length) (hl:l.length=4) (m:Nat) (hm:m<4) :
  w.cell? ⟨gc,i * 5+1+m,none⟩=some (.int .i64 (l.getD m 0))∧w.frozen? ⟨gc,i * 5+1+m,none⟩=false:=by
 have hi2:i<(codeAt s i op l).ob.code.length:=by rw [zw3];exact hi
 have h2:Mk w0 w g M va vf vp (.slice (some ⟨gc,0,none⟩) (codeAt s i op l).ob.code.length cc) vq (codeAt s i op l):=by rw [zw3];exact h
 have h3:=h2.code_cell i m hi2 hm
 have e:(codeAt s i op l).ob.code[i]=insOf op l:=by simp [codeAt]
 rw [e,zg9 op l hl] at h3
 exact h3
theorem Mk.cur_set {w0 w:World} {g M gc cc:Nat} {va vf vp vq:Value} {s:St} {i:Nat} {op:Int} {l:List Int} (h:Mk w0 w g M va vf vp (.slice (some ⟨gc,0,none⟩) s.ob.code.length cc) vq (codeAt s i op l)) (hi:i<s.ob.code.length) (hl:l.length=4) (m:Nat) (hm:m<4) (x:Int) :
  Mk w0 (w.setCell ⟨gc,i * 5+1+m,none⟩ (.int .i64 x)) g M va vf vp (.slice (some ⟨gc,0,none⟩) s.ob.code.length cc) vq (codeAt s i op (l.set m x)):=by
 have hi2:i<(codeAt s i op l).ob.code.length:=by rw [zw3];exact hi
 have h2:Mk w0 w g M va vf vp (.slice (some ⟨gc,0,none⟩) (codeAt s i op l).ob.code.length cc) vq (codeAt s i op l):=by rw [zw3];exact h
 have h3:=h2.code_set i m hi2 hm x
 have e:(codeAt s i op l).ob.code[i]=insOf op l:=by simp [codeAt]
 rw [e,zg9 op l hl,zw3,zc14] at h3
 exact h3
theorem set_mid (P Q:List Int) (m:Nat) (x:Int) (hP:P.length=m) (hm:m<Q.length):(P ++ Q.drop m).set m x=P ++ [x] ++ Q.drop (m+1):=by
 rw [List.drop_eq_getElem_cons hm,List.set_append_right _ _ (by omega),hP,Nat.sub_self,List.set_cons_zero]
 simp
theorem mid_get (P Q:List Int) (m:Nat) (hP:P.length=m) (hm:m<Q.length):(P ++ Q.drop m).getD m 0=Q.getD m 0:=by
 rw [List.getD_eq_getElem?_getD,List.getElem?_append_right (by omega),hP,Nat.sub_self,List.getElem?_drop,Nat.add_zero]
 rfl
theorem mid_keep (P Q:List Int) (m:Nat) (hm:m<Q.length):P ++ [Q.getD m 0] ++ Q.drop (m+1)=P ++ Q.drop m:=by
 rw [List.drop_eq_getElem_cons hm,List.getD_eq_getElem?_getD,List.getElem?_eq_getElem hm]
 simp
theorem zn15 {w0 w w':World} {g M gc cc:Nat} {va vf vp vq:Value} {s:St} {i:Nat} {r:Option Ins} (h:r=none) (hb:Below w0.heap.size w0 w') (hf:Fr (fun k=>k=gc) w w'):SetW w0 w g M gc cc va vf vp vq s i r (.returned (.int .i64 10)) w':=by
 subst h
 exact⟨rfl,hb,hf⟩
theorem setW_some {w0 w w':World} {g M gc cc:Nat} {va vf vp vq:Value} {s:St} {i:Nat} {r:Option Ins} {op:Int} {l:List Int} (h:r=some (insOf op l)) (hk:Mk w0 w' g M va vf vp (.slice (some ⟨gc,0,none⟩) s.ob.code.length cc) vq (codeAt s i op l)):SetW w0 w g M gc cc va vf vp vq s i r (.returned (.int .i64 0)) w':=by
 subst h
 exact⟨rfl,hk⟩
set_option maxRecDepth 100000 in
set_option maxHeartbeats 8000000 in
theorem zo8 (w0:World) (g M gc cc:Nat) (va vf vp vq:Value) (s:St) (i:Nat) (hi:i<s.ob.code.length) (hA:∀ m,m<4→-9223372036854775808≤(argOf s.ob.code[i]).getD m 0∧(argOf s.ob.code[i]).getD m 0≤9223372036854775807)
  (hl:s.ob.code.length≤1000000) (w:World) (hk:Mk w0 w g M va vf vp (.slice (some ⟨gc,0,none⟩) s.ob.code.length cc) vq s) :
  Calls Tryz.prog 42 #[.pointer (some ⟨g,0,none⟩),.pointer (some ⟨gc,i * 5,none⟩)] w (SetW w0 w g M gc cc va vf vp vq s i (placeIns s.labs s.ob.code.length s.ob.code[i])):=by
 have K0:Hid (Mk w0 w g M va vf vp (.slice (some ⟨gc,0,none⟩) s.ob.code.length cc) vq (codeAt s i s.ob.code[i].1 (argOf s.ob.code[i]))):=hD (by rw [ze16 s i hi];exact hk)
 have o0:=hk.code_op i hi
 have HE:Hid (placeIns s.labs s.ob.code.length s.ob.code[i]=(placeArgs s.labs s.ob.code.length (opsOf s.ob.code[i].1) (argOf s.ob.code[i])).map fun l=>insOf s.ob.code[i].1 l):=hD rfl
 have HQ4:=hD (zh9 s.ob.code[i])
 have HA:=hD hA
 generalize placeIns s.labs s.ob.code.length s.ob.code[i]=r at HE
 generalize argOf s.ob.code[i]=Q at K0 HE HA HQ4
 generalize s.ob.code[i].1=op at K0 HE o0
 have HOPS:=hD (fun w=>za3 op w)
 have hfew:=zv1 op
 generalize opsOf op=L at HE HOPS hfew
 clear hk hA
 go_enter Tryz.func42,Tryz.ntmps42
 obtain⟨gl,hgl⟩:∃ gl,w.heap.size=gl:=⟨_,rfl⟩
 have HGL:=hD hgl
 clear hgl
 go_upto_region 2 with(go_at_call 79;refine(HOPS.out _).mono ?_;rintro e w2 hN;obtain⟨pl,rfl,hb2,hl2⟩:=zi8 hN;rw [HGL.out] at hl2;have K2:=hD (K0.out.up hb2);have L2:=hD hl2;have F2:Hid (Fr (fun k=>k=gc) w w2):=hD (Fr.of_below hb2);clear hN hb2 hl2)
 clear K0 HOPS o0 HGL
 go_wp2
 go_loopw [5,6,7,8,15] (fun _ _ _ _ j wr=>∃ (m:Nat) (P:List Int),m≤L.length∧j=.int .i64 m∧Hid (PlP s.labs s.ob.code.length L Q m P)∧Hid (Mk w0 wr g M va vf vp (.slice (some ⟨gc,0,none⟩) s.ob.code.length cc) vq (codeAt s i op (P ++ Q.drop m)))∧Hid (0<L.length→pl=some ⟨gl,0,none⟩∧Box wr gl 3 (L.map (Value.int .i64)).toArray)∧Hid (Fr (fun k=>k=gc) w wr)) (fun _ _ _ _ j _=>L.length - (intOf j).toNat)
 case atStart=>exact⟨0,[],by omega,rfl,hD (PlP.start _ _ _ _),K2,L2,F2⟩
 obtain⟨m,P,hmL,rfl,HPP,HK,HL,HF⟩:=hrel
 clear K2 L2 F2
 by_cases hlm:m<L.length
 case neg=>
  obtain rfl:m=L.length:=by omega
  have HX:Hid (r=some (insOf op (P ++ Q.drop L.length))):=hD (by rw [HE.out,HPP.out.done];rfl)
  go_wp2
  go_ret
  exact setW_some HX.out HK.out
 obtain⟨rfl,hbl⟩:=HL.out (by omega)
 have HBL:=hD hbl
 have hkd:wr.cell? ⟨gl,m,none⟩=some (.int .i64 (L.getD m 0)):=by rw [hbl.cell m];simp [hlm]
 have hP:=HPP.out.1
 have hQ:=HQ4.out
 have hcl:(P ++ Q.drop m).length=4:=by rw [List.length_append,List.length_drop,hP,hQ];omega
 have hmid:=mid_get P Q m hP (by omega)
 have hcc:=HK.out.cur_cell hi hcl m (by omega)
 rw [hmid] at hcc
 obtain⟨a0,a1⟩:=hcc
 have HSET:=hD (fun x W (h:Mk w0 W g M va vf vp (.slice (some ⟨gc,0,none⟩) s.ob.code.length cc) vq (codeAt s i op (P ++ Q.drop m)))=>by have:=h.cur_set hi hcl m (by omega) x;rw [set_mid P Q m x hP (by omega)] at this;exact this)
 have hm4:(m:Int)<4:=by omega
 have hm0:(0:Int)≤(m:Int):=by omega
 have HKEEP:Hid (codeAt s i op (P ++ [Q.getD m 0] ++ Q.drop (m+1))=codeAt s i op (P ++ Q.drop m)):=hD (by rw [mid_keep P Q m (by omega)])
 have HNO:=hD (fun hc=>HPP.out.keep hlm (by omega) hc)
 have HYES:=hD (fun x hc hx hn=>HPP.out.put (x:=x) hlm (by omega) hc hx hn)
 have HBAD:=hD (fun hc hx=>HPP.out.bad hlm (by omega) hc hx)
 have HAm:=HA.out m (by omega)
 clear hbl hP hQ hcl hmid HPP HL
 generalize L.getD m 0=kd at hkd HNO HYES HBAD
 generalize Q.getD m 0=qm at a0 HNO HYES HBAD HAm HKEEP
 by_cases h8:kd=8
 case neg=>
  have e8:(kd == 8)=false:=by simpa using h8
  have e8':(kd != 8)=true:=by simpa using h8
  have HP2:=hD (HNO.out (fun h=>h8 h.1))
  clear h8
  go_wp2
  go_roundw
  case rel=>exact⟨m+1,_,by omega,by go_num,HP2,hD (by rw [HKEEP.out];exact HK.out),hD (fun _=>⟨by trivial,HBL.out⟩),HF⟩
  case measure=>simp [intOf];omega
 subst h8
 by_cases hnw:qm=65535
 ·subst hnw
  have HP2:=hD (HNO.out (fun h=>h.2 rfl))
  go_wp2
  go_roundw
  case rel=>exact⟨m+1,_,by omega,by go_num,HP2,hD (by rw [HKEEP.out];exact HK.out),hD (fun _=>⟨by trivial,HBL.out⟩),HF⟩
  case measure=>simp [intOf];omega
 have enw:(qm == 65535)=false:=by simpa using hnw
 have q4:=HK.out.box.cell 4
 have q3:=HK.out.box.cell 3
 have hlk:=fun n=>(HK.out.drewN n).rm.look2 qm (wfI (by omega) (by omega))
 cases hv:labOf s.labs qm with
 | none=>
  have hv2:labOf (codeAt s i op (P ++ Q.drop m)).labs qm=none:=hv
  rw [hv2] at hlk
  have HX:Hid (r=none):=hD (by rw [HE.out,HBAD.out ⟨rfl,hnw⟩ (.inl hv)];rfl)
  clear hv hv2 hnw
  go_upto_region 5 with(fail)
  go_quiet (fail)
  go_wp2
  go_ret
  exact zn15 HX.out (zo HK.out.below _) (HF.out.drewN _)
 | some v=>
  have hv2:labOf (codeAt s i op (P ++ Q.drop m)).labs qm=some v:=hv
  rw [hv2] at hlk
  by_cases hge:(s.ob.code.length:Int)≤v
  ·have HX:Hid (r=none):=hD (by rw [HE.out,HBAD.out ⟨rfl,hnw⟩ (.inr ⟨v,hv,hge⟩)];rfl)
   clear hv hv2 hnw
   go_upto_region 5 with(fail)
   go_quiet (fail)
   go_wp2
   go_ret
   exact zn15 HX.out (zo HK.out.below _) (HF.out.drewN _)
  ·have HP2:=hD (HYES.out v ⟨rfl,hnw⟩ hv (by omega))
   clear hv hv2 hnw
   go_upto_region 5 with(fail)
   go_quiet (fail)
   go_wp2
   go_roundw
   case rel=>exact⟨m+1,_,by omega,by go_num,HP2,hD (HSET.out v _ (HK.out.drewN _)),hD (fun h=>⟨by trivial,((HBL.out.drewN _).far (p:=⟨gc,i * 5+1+m,none⟩) (fun e=>zb HK.out.rc HBL.out (by decide) gc rfl e.symm) _)⟩),hD ((HF.out.drewN _).setCell (p:=⟨gc,i * 5+1+m,none⟩) (.inl rfl) _)⟩
   case measure=>simp [intOf];omega
def SettleW (w0 w:World) (g M gc cc:Nat) (va vf vp vq:Value) (s:St) (r:Except (Int × Int) Ob) (e:Ending) (w':World):Prop:=
 match r with
 | .error c=>e=.returned (.int .i64 c.1)∧Below w0.heap.size w0 w'∧Fr (fun k=>k=gc) w w'
 | .ok o=>e=.returned (.int .i64 0)∧Mk w0 w' g M va vf vp (.slice (some ⟨gc,0,none⟩) s.ob.code.length cc) vq { s with ob:=o }∧o.code.length=s.ob.code.length
theorem zn10 {w0 w w':World} {g M gc cc:Nat} {va vf vp vq:Value} {s:St} {r:Except (Int × Int) Ob} {c n:Int} (h:r=.error (c,n)) (hb:Below w0.heap.size w0 w') (hf:Fr (fun k=>k=gc) w w'):SettleW w0 w g M gc cc va vf vp vq s r (.returned (.int .i64 c)) w':=by
 subst h
 exact⟨rfl,hb,hf⟩
theorem zc12 {w0 w w':World} {g M gc cc:Nat} {va vf vp vq:Value} {s:St} {r:Except (Int × Int) Ob} {o:Ob} (h:r=.ok o) (hk:Mk w0 w' g M va vf vp (.slice (some ⟨gc,0,none⟩) s.ob.code.length cc) vq { s with ob:=o }) (hl:o.code.length=s.ob.code.length):SettleW w0 w g M gc cc va vf vp vq s r (.returned (.int .i64 0)) w':=by
 subst h
 exact⟨rfl,hk,hl⟩
set_option maxRecDepth 100000 in
set_option maxHeartbeats 8000000 in
theorem zz20 (w0:World) (g M gc cc:Nat) (va vf vp vq:Value) (s:St) (l n:Int) (b:Bool) (hn:b=false→0≤n∧n<s.ob.code.length) (hA:∀ i (hi:i<s.ob.code.length),∀ m,m<4→-9223372036854775808≤(argOf s.ob.code[i]).getD m 0∧(argOf s.ob.code[i]).getD m 0≤9223372036854775807)
  (hl:s.ob.preds.length≤1000000∧s.ob.code.length≤1000000) (w:World) (hk:Mk w0 w g M va vf vp (.slice (some ⟨gc,0,none⟩) s.ob.code.length cc) vq s) :
  Calls Tryz.prog 21 #[.pointer (some ⟨g,0,none⟩),.agg #[.int .i64 l,.int .i64 n,.bool b]] w (SettleW w0 w g M gc cc va vf vp vq s (ptStep s.labs s.ob (l,n,b))):=by
 have K1:=hD (hk.alloc (.cells #[.int .i64 l,.int .i64 n,.bool b] 82))
 have X1:=hD (Box.new w 82 #[.int .i64 l,.int .i64 n,.bool b])
 cases b with
 | true=>
  have HE:Hid (ptStep s.labs s.ob (l,n,true)=if (s.ob.code.length:Int)≤n ∨ 1<cntOf s.ob.preds n then .error (7,l) else .ok s.ob):=hD rfl
  have HS:=hD (fun W h=>zp5 w0 g M va vf vp (.slice (some ⟨gc,0,none⟩) s.ob.code.length cc) vq s n hl W h)
  generalize ptStep s.labs s.ob (l,n,true)=r at HE
  by_cases hc:(s.ob.code.length:Int)≤n ∨ 1<cntOf s.ob.preds n
  ·have HX:Hid (r=.error (7,l)):=hD (by rw [HE.out,if_pos hc])
   rw [if_pos hc] at HS
   clear hc hk hn hA
   go_enter Tryz.func21,Tryz.ntmps21
   go_wp2_with (go_at_call 41;refine(HS.out _ K1.out).mono ?_;rintro e w2 ⟨rfl,hk2,hb2⟩;have HK2:=hD hk2;have HF2:Hid (Fr (fun k=>k=gc) w w2):=hD (((Fr.refl _ w).alloc _).trans (Fr.of_below hb2));clear hk2 hb2)
   go_ret
   exact zn10 HX.out HK2.out.below HF2.out
  ·have HX:Hid (r=.ok s.ob):=hD (by rw [HE.out,if_neg hc])
   rw [if_neg hc] at HS
   clear hc hk hn hA
   go_enter Tryz.func21,Tryz.ntmps21
   go_wp2_with (go_at_call 41;refine(HS.out _ K1.out).mono ?_;rintro e w2 ⟨rfl,hk2,_⟩;have HK2:=hD hk2;clear hk2)
   go_ret
   exact zc12 HX.out HK2.out rfl
 | false=>
  obtain⟨hn0,hn1⟩:=hn rfl
  obtain⟨i,rfl⟩:=Int.eq_ofNat_of_zero_le hn0
  have hi:i<s.ob.code.length:=by omega
  have HE:Hid (ptStep s.labs s.ob (l,(i:Int),false)=match placeIns s.labs s.ob.code.length s.ob.code[i] with
   | none=>.error (10,l)
   | some x=>.ok { s.ob with code:=s.ob.code.set i x }):=hD (by
    unfold ptStep
    have e:s.ob.code.getD i (0,0,0,0,0)=s.ob.code[i]:=by rw [List.getD_eq_getElem?_getD,List.getElem?_eq_getElem hi];rfl
    simp only [Bool.false_eq_true,if_false,Int.toNat_natCast,e]
    cases placeIns s.labs s.ob.code.length s.ob.code[i] <;> rfl)
  have HS:=hD (fun W h=>zo8 w0 g M gc cc va vf vp vq s i hi (hA i hi) hl.2 W h)
  generalize ptStep s.labs s.ob (l,(i:Int),false)=r at HE
  have i1:(i:Int)<(s.ob.code.length:Int):=by omega
  have i2:(0:Int)≤(i:Int):=by omega
  have d0:=X1.out.cell 0
  have d1:=X1.out.cell 1
  have d2:=X1.out.cell 2
  have q3:=K1.out.box.cell 3
  generalize placeIns s.labs s.ob.code.length s.ob.code[i]=pr at HE HS
  unfold SetW at HS
  clear hk hn hA hn0 hn1
  cases pr with
  | none=>
   have HX:Hid (r=.error (10,l)):=HE
   go_enter Tryz.func21,Tryz.ntmps21
   go_upto_region 3 with(fail)
   go_region_law (go_simp;go_at_call 42;refine(HS.out _ (K1.out.drewN 1)).mono ?_;rintro e w2 ⟨rfl,hb2,hf2⟩;have HB2:=hD hb2;have HF2:Hid (Fr (fun k=>k=gc) w w2):=hD ((((Fr.refl _ w).alloc _).drewN 1).trans hf2);clear hb2 hf2)
   all_goals
    go_wp2
    go_ret
    exact zn10 HX.out HB2.out HF2.out
  | some x=>
   have HX:Hid (r=.ok { s.ob with code:=s.ob.code.set i x }):=HE
   go_enter Tryz.func21,Tryz.ntmps21
   go_upto_region 3 with(fail)
   go_region_law (go_simp;go_at_call 42;refine(HS.out _ (K1.out.drewN 1)).mono ?_;rintro e w2 ⟨rfl,hk2⟩;have HK2:=hD hk2;clear hk2)
   all_goals
    go_wp2
    go_ret
    exact zc12 HX.out HK2.out (by simp)
end Go.Proofs.YtlmbiafloiompaaGreatDoor
