/-
 The document's Check: what is wrong with an object. Conditions: lengths are such as may be.
-/
import Derived.Test.YtlmbiafloiompaaGreatDoorJO31
import Derived.Test.YtlmbiafloiompaaGreatDoorJO05
import Derived.Test.YtlmbiafloiompaaGreatDoorJO04
import Derived.Test.YtlmbiafloiompaaGreatDoorJO06
set_option linter.unusedVariables false
set_option linter.unusedSimpArgs false
namespace Go.Proofs.YtlmbiafloiompaaGreatDoor
open Go Go.RowKit Go.WideShapes Go.ChangeShapes
theorem check_tab (o:Ob):checkOf o=if bigB o.atoms.length o.funs.length o.preds.length o.code.length=true then 2 else if tabOf o=0 then codeErr o.atoms.length o.funs.length o.preds.length o.code.length o.code else tabOf o:=by
 unfold checkOf tabOf
 change (if _ then(2:Int) else if namesOk o=false then 7 else if dupB o then 11 else if entsOk o.code.length (o.preds.map entOf)=false then 7 else _)=_
 by_cases hb:bigB o.atoms.length o.funs.length o.preds.length o.code.length=true
 ·rw [if_pos hb,if_pos hb]
 rw [if_neg hb,if_neg hb]
 by_cases h1:namesOk o=false
 ·simp [h1]
 by_cases h2:dupB o=true
 ·simp [h1,h2]
 by_cases h3:entsOk o.code.length (o.preds.map entOf)=false
 ·simp [h1,h2,h3]
 ·simp [h1,h2,h3]
theorem right_low {op:Int} {args:List Int} (h:rightB op args=true) (k:Nat) (hk:k<4) (hn:(opsOf op).getD k 0=3 ∨ (opsOf op).getD k 0=4 ∨ (opsOf op).getD k 0=7 ∨ (opsOf op).getD k 0=8):0≤args.getD k 0:=by
 unfold rightB at h
 rw [Bool.and_eq_true,List.all_eq_true] at h
 have:=h.2 k (List.mem_range.2 hk)
 unfold mayB at this
 have h2:=of_decide_eq_true this
 have hl:lowOf ((opsOf op).getD k 0)=0:=by
  unfold lowOf
  rw [if_neg (by omega)]
 omega
theorem zu9 {w w':World} {l:List Int} {e:Ending} (h:l=[]) (hN:NewInts w l e w'):e=.returned (.slice none 0 0)∧w'=w:=by
 rcases hN with⟨_,h1,h2⟩ | ⟨h1,_⟩
 ·exact⟨h1,h2⟩
 ·exact absurd h h1
theorem zj8 {w w':World} {l:List Int} {e:Ending} (h:¬ l=[]) (hN:NewInts w l e w'):e=.returned (.slice (some ⟨w.heap.size,0,none⟩) l.length l.length)∧w'=w.alloc (.cells (l.map (Value.int .i64)).toArray 3):=by
 rcases hN with⟨h1,_⟩ | ⟨_,h1,h2⟩
 ·exact absurd h1 h
 ·exact⟨h1,h2⟩
set_option maxRecDepth 100000 in
set_option maxHeartbeats 16000000 in
theorem zr20 (o:Ob) (ho:ObWf o) (va vf vp vc:Value) (w:World) (hv:ObAt w va vf vp vc o) :
  Calls Tryz.prog 29 #[.agg #[va,vf,vp,vc]] w fun e w'=>e=.returned (.int .i64 (checkOf o))∧Below w.heap.size w w':=by
 have HTA:=hD (fun w' h=>zh17 o ho va vf vp vc w' h)
 obtain⟨A1,c1,rfl⟩:=CellsAt.form hv.atoms
 obtain⟨A2,c2,rfl⟩:=CellsAt.form hv.funs
 obtain⟨A3,c3,rfl⟩:=CellsAt.form hv.preds
 obtain⟨A4,c4,rfl⟩:=CellsAt.form hv.code
 have HV:=hD hv
 have HL:Hid (o.atoms.length≤1000000∧o.funs.length≤1000000∧o.preds.length≤1000000∧o.code.length≤1000000):=hD ⟨ho.la,ho.lf,ho.lp,ho.lc⟩
 have HCT:=hD (check_tab o)
 have hBG:=fun w=>big_any o.atoms.length o.funs.length o.preds.length o.code.length w
 generalize checkOf o=ck at HCT
 generalize tabOf o=tb at HTA HCT
 have K0:=hD (⟨Box.new w _ _,za w _⟩:CkR w (w.alloc (.cells #[.slice A1 o.atoms.length c1,.slice A2 o.funs.length c2,.slice A3 o.preds.length c3,.slice A4 o.code.length c4] 27)) w.heap.size #[.slice A1 o.atoms.length c1,.slice A2 o.funs.length c2,.slice A3 o.preds.length c3,.slice A4 o.code.length c4])
 clear hv ho
 go_enter Tryz.func29,Tryz.ntmps29
 go_upto_region 1 with(fail)
 obtain⟨w1,hw1⟩:∃ w1,w.alloc (.cells #[.slice A1 o.atoms.length c1,.slice A2 o.funs.length c2,.slice A3 o.preds.length c3,.slice A4 o.code.length c4] 27)=w1:=⟨_,rfl⟩
 rw [hw1] at K0 ⊢
 obtain⟨g,hg⟩:∃ g,w.heap.size=g:=⟨_,rfl⟩
 have HG:=hD hg
 rw [hg] at K0
 rw [show({ block:=w.heap.size,off:=0 }:Addr)={ block:=g,off:=0 } by rw [hg]]
 clear hw1 hg
 have q0:=K0.out.ob.cell 0
 have q1:=K0.out.ob.cell 1
 have q2:=K0.out.ob.cell 2
 have q3:=K0.out.ob.cell 3
 cases hbig:bigB o.atoms.length o.funs.length o.preds.length o.code.length
 case true=>
  rw [hbig] at hBG
  have HBG:=hD hBG
  have HX:Hid (ck=2):=hD (by rw [HCT.out,hbig];rfl)
  clear hBG hbig
  go_wp2_with (go_at_call 60;refine(HBG.out _).mono ?_;rintro e w5 ⟨rfl,rfl⟩)
  go_ret
  exact⟨by rw [HX.out];rfl,K0.out.below⟩
 case false=>
 rw [hbig] at hBG
 have HBG:=hD hBG
 have HCT2:Hid (ck=if tb=0 then codeErr o.atoms.length o.funs.length o.preds.length o.code.length o.code else tb):=hD (by rw [HCT.out,hbig];rfl)
 clear hBG hbig HCT
 have HTA2:=hD (HTA.out w1 (HV.out.below (K0.out.below)))
 clear HTA
 by_cases hz:tb=0
 case neg=>
  have HX:Hid (ck=tb):=hD (by rw [HCT2.out,if_neg hz])
  have hz1:(tb != 0)=true:=by simp [hz]
  have hz2:(tb == 0)=false:=by simp [hz]
  clear hz
  go_wp2_with (first
   | (go_at_call 60;refine(HBG.out _).mono ?_;rintro e w5 ⟨rfl,rfl⟩)
   | (go_at_call 61;refine HTA2.out.mono ?_;rintro e w5 ⟨rfl,hb5⟩;have HK5:=hD (K0.out.up hb5);clear hb5))
  go_ret
  exact⟨by rw [HX.out];rfl,HK5.out.below⟩
 have HCT3:Hid (codeErr o.atoms.length o.funs.length o.preds.length o.code.length o.code=ck):=hD (by rw [HCT2.out,if_pos hz])
 subst hz
 clear HCT2
 go_upto_region 4 with(first
   | (go_at_call 60;refine(HBG.out _).mono ?_;rintro e w5 ⟨rfl,rfl⟩)
   | (go_at_call 61;refine HTA2.out.mono ?_;rintro e w5 ⟨rfl,hb5⟩;have HK5:=hD (K0.out.up hb5);clear hb5))
 clear q0 q1 q2 q3 HBG HTA2 K0
 go_wp2
 go_loopw [4,5,6,7] (fun i x l kk wr=>∃ k:Nat,k≤o.code.length∧i=.int .i64 k∧Hid (CkR w wr g #[.slice A1 o.atoms.length c1,.slice A2 o.funs.length c2,.slice A3 o.preds.length c3,.slice A4 o.code.length c4])∧Hid (codeErr o.atoms.length o.funs.length o.preds.length o.code.length (o.code.drop k)=ck)) (fun i _ _ _ _=>o.code.length - (intOf i).toNat)
 case atStart=>exact⟨0,by omega,rfl,HK5,hD (by rw [List.drop_zero];exact HCT3.out)⟩
 obtain⟨k,hk,rfl,HK,HCE⟩:=hrel
 clear HK5 HCT3
 have hlc:=HL.out.2.2.2
 have q3:=HK.out.ob.cell 3
 by_cases hlt:k<o.code.length
 case neg=>
  obtain rfl:k=o.code.length:=by omega
  have HX:Hid (ck=0):=hD (by rw [← HCE.out,List.drop_length];rfl)
  go_wp2
  go_ret
  exact⟨by rw [HX.out];rfl,HK.out.below⟩
 obtain⟨b,off,rfl,hb,hc0,hc1,hc2,hc3,hc4⟩:=zm3 HV.out.code k hlt
 have d0:=(HK.out.below.cell (p:=⟨b,off+k * 5,none⟩) hb).trans hc0
 have d1:=(HK.out.below.cell (p:=⟨b,off+k * 5+1,none⟩) hb).trans hc1
 have d2:=(HK.out.below.cell (p:=⟨b,off+k * 5+2,none⟩) hb).trans hc2
 have d3:=(HK.out.below.cell (p:=⟨b,off+k * 5+3,none⟩) hb).trans hc3
 have d4:=(HK.out.below.cell (p:=⟨b,off+k * 5+4,none⟩) hb).trans hc4
 have HST:=hD (za8 o.atoms.length o.funs.length o.preds.length o.code.length o.code k hlt)
 have HIE:Hid (insErr o.atoms.length o.funs.length o.preds.length o.code.length o.code[k]=if ¬ (0≤o.code[k].1∧o.code[k].1≤26) then 8 else if rightB o.code[k].1 [o.code[k].2.1,o.code[k].2.2.1,o.code[k].2.2.2.1,o.code[k].2.2.2.2]=false then 9 else if (List.range (opsOf o.code[k].1).length).all (fun j=>thereB o.atoms.length o.funs.length o.preds.length o.code.length ((opsOf o.code[k].1).getD j 0) ([o.code[k].2.1,o.code[k].2.2.1,o.code[k].2.2.2.1,o.code[k].2.2.2.2].getD j 0)) then 0 else 9):=hD rfl
 clear hc0 hc1 hc2 hc3 hc4
 generalize insErr o.atoms.length o.funs.length o.preds.length o.code.length o.code[k]=ie at HST HIE
 generalize o.code[k].1=i0 at d0 HIE
 generalize o.code[k].2.1=i1 at d1 HIE
 generalize o.code[k].2.2.1=i2 at d2 HIE
 generalize o.code[k].2.2.2.1=i3 at d3 HIE
 generalize o.code[k].2.2.2.2=i4 at d4 HIE
 have HKA:=hD (HK.out.up (za wr (.cells #[.int .i64 i0,.int .i64 i1,.int .i64 i2,.int .i64 i3,.int .i64 i4] 54)))
 have HBA:Hid (RBox wr.heap.size i0 i1 i2 i3 i4 wr (wr.alloc (.cells #[.int .i64 i0,.int .i64 i1,.int .i64 i2,.int .i64 i3,.int .i64 i4] 54))):=hD ⟨Box.new _ _ _,za wr _⟩
 by_cases hlo:i0<0
 ·have hie:ie=8:=by rw [HIE.out,if_pos (by omega)]
  have HX:Hid (ck=8):=hD (by rw [← HCE.out,HST.out,hie];rfl)
  clear hie
  go_wp2
  go_ret
  exact⟨by rw [HX.out];rfl,HKA.out.below⟩
 by_cases hhi:26<i0
 ·have hie:ie=8:=by rw [HIE.out,if_pos (by omega)]
  have HX:Hid (ck=8):=hD (by rw [← HCE.out,HST.out,hie];rfl)
  clear hie
  go_wp2
  go_ret
  exact⟨by rw [HX.out];rfl,HKA.out.below⟩
 have HIE2:Hid (ie=if rightB i0 [i1,i2,i3,i4]=false then 9 else if (List.range (opsOf i0).length).all (fun j=>thereB o.atoms.length o.funs.length o.preds.length o.code.length ((opsOf i0).getD j 0) ([i1,i2,i3,i4].getD j 0)) then 0 else 9):=hD (by rw [HIE.out,if_neg (by omega)])
 clear HIE
 have hRR:=fun w=>zv20 i0 i1 i2 i3 i4 w
 unfold insV at hRR
 cases hr:rightB i0 [i1,i2,i3,i4]
 case false=>
  rw [hr] at hRR
  have HRR:=hD hRR
  have hie:ie=9:=by rw [HIE2.out,if_pos hr]
  have HX:Hid (ck=9):=hD (by rw [← HCE.out,HST.out,hie];rfl)
  clear hie
  clear hRR hr
  go_wp2_with (go_at_call 62;refine(HRR.out _).mono ?_;rintro e w6 ⟨rfl,hb6⟩;have HK6:=hD (HKA.out.up hb6);clear hb6)
  go_ret
  exact⟨by rw [HX.out];rfl,HK6.out.below⟩
 case true=>
 rw [hr] at hRR
 have HRR:=hD hRR
 have HIE3:Hid (ie=if (List.range (opsOf i0).length).all (fun j=>thereB o.atoms.length o.funs.length o.preds.length o.code.length ((opsOf i0).getD j 0) ([i1,i2,i3,i4].getD j 0)) then 0 else 9):=hD (by rw [HIE2.out,if_neg (by rw [hr];simp)])
 have HLOW:=hD (fun j hj hn=>right_low hr j hj hn)
 have HFEW:=hD (zv1 i0)
 have HOPS:=hD (fun w=>zl2 i0 w)
 clear hRR hr HIE2
 obtain⟨gb,hgb⟩:∃ gb,wr.heap.size=gb:=⟨_,rfl⟩
 go_upto_region 14 with(go_at_call 62;refine(HRR.out _).mono ?_;rintro e w6 ⟨rfl,hb6⟩;have HK6:=hD (HKA.out.up hb6);have HB6:=hD (HBA.out.up hb6);clear hb6)
 clear HRR HKA HBA HK d0 d1 d2 d3 d4 q3
 rw [hgb] at HB6
 have e0:=HB6.out.ins.cell 0
 by_cases hop:opsOf i0=[]
 ·have HCE2:Hid (codeErr o.atoms.length o.funs.length o.preds.length o.code.length (o.code.drop (k+1))=ck):=hD (by rw [← HCE.out,HST.out,if_pos (by rw [HIE3.out,hop];rfl)])
  clear HIE3 HST HCE
  go_upto_region 15 with(go_at_call 17;refine(HOPS.out _).mono ?_;rintro e w7 hN;obtain⟨rfl,rfl⟩:=zu9 hop hN;clear hN)
  go_wp2
  go_loopw [7] (fun j wr2=>j=.int .i64 0∧Hid (CkR w wr2 g #[.slice A1 o.atoms.length c1,.slice A2 o.funs.length c2,.slice A3 o.preds.length c3,.slice (some ⟨b,off,none⟩) o.code.length c4])) (fun _ _=>0)
  case atStart=>exact⟨rfl,HK6⟩
  obtain⟨rfl,HK7⟩:=hrel
  go_wp2
  go_roundw
  case rel=>exact⟨k+1,by omega,by go_num,HK7,HCE2⟩
  case measure=>simp [intOf];omega
 generalize opsOf i0=L at HIE3 HLOW HFEW HOPS hop
 obtain⟨gl,hgl⟩:∃ gl,w6.heap.size=gl:=⟨_,rfl⟩
 have HK7:=hD (HK6.out.up (za w6 (.cells (L.map (Value.int .i64)).toArray 3)))
 have HB7:=hD (HB6.out.up (za w6 (.cells (L.map (Value.int .i64)).toArray 3)))
 have HL7:=hD (Box.new w6 3 (L.map (Value.int .i64)).toArray)
 have hl4:=HFEW.out
 have hl0:0<L.length:=List.length_pos_iff.2 hop
 go_upto_region 15 with(go_at_call 17;refine(HOPS.out _).mono ?_;rintro e w7 hN;obtain⟨rfl,rfl⟩:=zj8 hop hN;clear hN)
 obtain⟨w7,hw7⟩:∃ w7,w6.alloc (.cells (L.map (Value.int .i64)).toArray 3)=w7:=⟨_,rfl⟩
 rw [hw7] at HK7 HB7 HL7
 try rw [hw7]
 rw [hgl] at HL7
 try rw [hgl]
 try rw [show({ block:=wr.heap.size,off:=0 }:Addr)={ block:=gb,off:=0 } by rw [hgb]]
 clear hw7 hgl e0 HOPS hgb HK6 HB6
 go_wp2
 go_loopw [7] (fun j wr2=>∃ m:Nat,m≤L.length∧j=.int .i64 m∧Hid (∀ x:Nat,x<m→thereB o.atoms.length o.funs.length o.preds.length o.code.length (L.getD x 0) ([i1,i2,i3,i4].getD x 0)=true)∧Hid (CkR w wr2 g #[.slice A1 o.atoms.length c1,.slice A2 o.funs.length c2,.slice A3 o.preds.length c3,.slice (some ⟨b,off,none⟩) o.code.length c4])∧Hid (RBox gb i0 i1 i2 i3 i4 wr wr2)∧Hid (Box wr2 gl 3 (L.map (Value.int .i64)).toArray)) (fun j _=>L.length - (intOf j).toNat)
 case atStart=>exact⟨0,by omega,rfl,hD (fun x hx=>absurd hx (by omega)),HK7,HB7,HL7⟩
 obtain⟨m,hm,rfl,HTH,HKM,HBM,HLM⟩:=hrel
 clear HK7 HB7 HL7
 by_cases hlm:m<L.length
 case neg=>
  obtain rfl:m=L.length:=by omega
  have HCE2:Hid (codeErr o.atoms.length o.funs.length o.preds.length o.code.length (o.code.drop (k+1))=ck):=hD (by
   rw [← HCE.out,HST.out,if_pos (by
    rw [HIE3.out,if_pos (by rw [List.all_eq_true];exact fun x hx=>HTH.out x (List.mem_range.1 hx))])])
  clear HIE3 HST HCE
  go_wp2
  go_roundw
  case rel=>exact⟨k+1,by omega,by go_num,HKM,HCE2⟩
  case measure=>simp [intOf];omega
 case pos=>
  have HKD:=hD (HKM.out.up (bdrew1 wr))
  have HBD:=hD (HBM.out.up (bdrew1 wr))
  have HLD:=hD (HLM.out.below (bdrew1 wr) HLM.out.lt)
  have hkd:wr.drew.cell? ⟨gl,m,none⟩=some (.int .i64 (L.getD m 0)):=by rw [HLD.out.cell m];simp [hlm]
  have hnn:=HBD.out.cell m (by omega)
  have hm4:(m:Int)<4:=by omega
  have hm0:(0:Int)≤(m:Int):=by omega
  have hRO:=fun w=>roper_any A1 A2 A3 (some ⟨b,off,none⟩) o.atoms.length c1 o.funs.length c2 o.preds.length c3 o.code.length c4 (L.getD m 0) ([i1,i2,i3,i4].getD m 0) (HLOW.out m (by omega)) w
  have HTN:Hid (thereB o.atoms.length o.funs.length o.preds.length o.code.length (L.getD m 0) ([i1,i2,i3,i4].getD m 0)=true→∀ x:Nat,x<m+1→thereB o.atoms.length o.funs.length o.preds.length o.code.length (L.getD x 0) ([i1,i2,i3,i4].getD x 0)=true):=hD (fun h x hx=>by
   by_cases hxm:x<m
   ·exact HTH.out x hxm
   ·obtain rfl:x=m:=by omega
    exact h)
  have HTB:Hid (thereB o.atoms.length o.funs.length o.preds.length o.code.length (L.getD m 0) ([i1,i2,i3,i4].getD m 0)=false→ck=9):=hD (fun h=>by
   have hie:ie=9:=by
    rw [HIE3.out,if_neg (by
     rw [List.all_eq_true]
     intro hall
     rw [hall m (List.mem_range.2 hlm)] at h
     cases h)]
   rw [← HCE.out,HST.out,hie]
   rfl)
  generalize thereB o.atoms.length o.funs.length o.preds.length o.code.length (L.getD m 0) ([i1,i2,i3,i4].getD m 0)=tr at hRO HTN HTB
  generalize L.getD m 0=kd at hkd hRO
  generalize [i1,i2,i3,i4].getD m 0=nn at hnn hRO
  have HRO:=hD hRO
  clear hRO
  cases tr
  ·have HX:=hD (HTB.out rfl)
   go_upto_region 18 with(fail)
   refine wp_region_held_drew (S:=(fun W=>W.cell? ⟨g,0,none⟩=some (.slice A1 o.atoms.length c1)∧W.cell? ⟨g,1,none⟩=some (.slice A2 o.funs.length c2)∧W.cell? ⟨g,2,none⟩=some (.slice A3 o.preds.length c3)∧W.cell? ⟨g,3,none⟩=some (.slice (some ⟨b,off,none⟩) o.code.length c4)∧W.cell? ⟨gl,m,none⟩=some (.int .i64 kd)∧W.cell? ⟨gb,1+m,none⟩=some (.int .i64 nn))) (by kernel_rfl) ?_ (fun hHeld=>?_)
   ·exact⟨HKD.out.ob.cell 0,HKD.out.ob.cell 1,HKD.out.ob.cell 2,HKD.out.ob.cell 3,hkd,hnn⟩
   have st:StH [0,1,2,3,4,5,6,7,8]:=trivial
   iterate 9
    refine tHL st (v:=?_) rfl ?_ ?_
    rotate_left 1
    ·(intro w' hSw;(try dsimp only at hSw);go_simp;try with_reducible rfl)
    replace st:=st.tl
    try simp only [qA,qB,qC,Act.put,qD,qE,qF]
   refine wH1 (i:=9) (by kernel_rfl) rfl fun K hK=>?_
   go_simp
   go_at_call 63;refine(HRO.out _).mono ?_;rintro e w9 ⟨rfl,hb9⟩;have HK9:=hD (HKD.out.up hb9);have HB9:=hD (HBD.out.up hb9);have HL9:=hD (HLD.out.below hb9 HLD.out.lt)
   refine hK.out _ _ ?_ (fun hHeld=>?_)
   ·exact⟨HK9.out.ob.cell 0,HK9.out.ob.cell 1,HK9.out.ob.cell 2,HK9.out.ob.cell 3,(hb9.cell (p:=⟨gl,m,none⟩) HLD.out.lt).trans hkd,(hb9.cell (p:=⟨gb,1+m,none⟩) HBD.out.ins.lt).trans hnn⟩
   clear hK K hb9
   refine tHH (i:=10) (v:=?_) rfl ?_ ?_
   rotate_left 1
   ·(intro w' hSw;(try dsimp only at hSw);go_simp;try with_reducible rfl)
   try simp only [qA,qB,qC,Act.put,qD,qE,qF]
   refine wpAnyH_done (by kernel_rfl) ?_ _
   go_wp2_with fail
   go_ret
   exact⟨by rw [HX.out];rfl,HK9.out.below⟩
  ·have HT2:=hD (HTN.out rfl)
   go_upto_region 18 with(fail)
   refine wp_region_held_drew (S:=(fun W=>W.cell? ⟨g,0,none⟩=some (.slice A1 o.atoms.length c1)∧W.cell? ⟨g,1,none⟩=some (.slice A2 o.funs.length c2)∧W.cell? ⟨g,2,none⟩=some (.slice A3 o.preds.length c3)∧W.cell? ⟨g,3,none⟩=some (.slice (some ⟨b,off,none⟩) o.code.length c4)∧W.cell? ⟨gl,m,none⟩=some (.int .i64 kd)∧W.cell? ⟨gb,1+m,none⟩=some (.int .i64 nn))) (by kernel_rfl) ?_ (fun hHeld=>?_)
   ·exact⟨HKD.out.ob.cell 0,HKD.out.ob.cell 1,HKD.out.ob.cell 2,HKD.out.ob.cell 3,hkd,hnn⟩
   have st:StH [0,1,2,3,4,5,6,7,8]:=trivial
   iterate 9
    refine tHL st (v:=?_) rfl ?_ ?_
    rotate_left 1
    ·(intro w' hSw;(try dsimp only at hSw);go_simp;try with_reducible rfl)
    replace st:=st.tl
    try simp only [qA,qB,qC,Act.put,qD,qE,qF]
   refine wH1 (i:=9) (by kernel_rfl) rfl fun K hK=>?_
   go_simp
   go_at_call 63;refine(HRO.out _).mono ?_;rintro e w9 ⟨rfl,hb9⟩;have HK9:=hD (HKD.out.up hb9);have HB9:=hD (HBD.out.up hb9);have HL9:=hD (HLD.out.below hb9 HLD.out.lt)
   refine hK.out _ _ ?_ (fun hHeld=>?_)
   ·exact⟨HK9.out.ob.cell 0,HK9.out.ob.cell 1,HK9.out.ob.cell 2,HK9.out.ob.cell 3,(hb9.cell (p:=⟨gl,m,none⟩) HLD.out.lt).trans hkd,(hb9.cell (p:=⟨gb,1+m,none⟩) HBD.out.ins.lt).trans hnn⟩
   clear hK K hb9
   refine tHH (i:=10) (v:=?_) rfl ?_ ?_
   rotate_left 1
   ·(intro w' hSw;(try dsimp only at hSw);go_simp;try with_reducible rfl)
   try simp only [qA,qB,qC,Act.put,qD,qE,qF]
   refine wpAnyH_done (by kernel_rfl) ?_ _
   go_wp2_with fail
   go_roundw
   case rel=>exact⟨m+1,by omega,by go_num,HT2,HK9,HB9,HL9⟩
   case measure=>simp [intOf];omega
end Go.Proofs.YtlmbiafloiompaaGreatDoor
