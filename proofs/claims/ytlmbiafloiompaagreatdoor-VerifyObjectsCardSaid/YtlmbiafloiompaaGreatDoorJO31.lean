/-
 The document's tables: what is wrong with names,predicates and Entries. Conditions: lengths are such as may be.
-/
import Derived.Test.YtlmbiafloiompaaGreatDoorJO30
import Derived.Test.YtlmbiafloiompaaGreatDoorJO19
set_option linter.unusedVariables false
set_option linter.unusedSimpArgs false
namespace Go.Proofs.YtlmbiafloiompaaGreatDoor
open Go Go.RowKit Go.WideShapes Go.ChangeShapes
def tabOf (o:Ob):Int:=if namesOk o=false then 7 else if dupB o then 11 else if entsOk o.code.length (o.preds.map entOf)=false then 7 else 0
structure CkR (w wr:World) (g:Nat) (us:Array Value):Prop where
 ob:Box wr g 27 us
 below:Below w.heap.size w wr
theorem CkR.up {w wr w':World} {g:Nat} {us:Array Value} (h:CkR w wr g us) (hb:Below wr.heap.size wr w'):CkR w w' g us:=⟨h.ob.below hb h.ob.lt,h.below.trans (hb.mono h.below.size)⟩
theorem CkR.drewN {w wr:World} {g:Nat} {us:Array Value} (h:CkR w wr g us) (n:Nat):CkR w (wr.drewN n) g us:=⟨h.ob.drewN n,h.below.trans ⟨rfl,rfl,rfl,Nat.le_refl _,fun _ _=>rfl⟩⟩
theorem zl3 {α:Type} (l:List α) (x:α) (j:Nat) (h:j<l.length) (hn:x ∉ l.take j) (hx:x≠l[j]):x ∉ l.take (j+1):=by
 rw [List.take_succ_eq_append_getElem h]
 intro hm
 rcases List.mem_append.1 hm with hm | hm
 ·exact hn hm
 ·exact hx (by simpa using hm)
theorem zd4 {α:Type} (l:List α) (j k:Nat) (h:j<l.length) (hj:j<k):l[j] ∈ l.take k:=by
 rw [List.mem_take_iff_getElem]
 exact⟨j,by omega,rfl⟩
set_option maxRecDepth 100000 in
set_option maxHeartbeats 16000000 in
theorem zh17 (o:Ob) (ho:ObWf o) (va vf vp vc:Value) (w:World) (hv:ObAt w va vf vp vc o) :
  Calls Tryz.prog 61 #[.agg #[va,vf,vp,vc]] w fun e w'=>e=.returned (.int .i64 (tabOf o))∧Below w.heap.size w w':=by
 obtain⟨A1,c1,rfl⟩:=CellsAt.form hv.atoms
 obtain⟨A2,c2,rfl⟩:=CellsAt.form hv.funs
 obtain⟨A3,c3,rfl⟩:=CellsAt.form hv.preds
 obtain⟨A4,c4,rfl⟩:=CellsAt.form hv.code
 have HV:=hD hv
 have HWF:=hD ho
 have HL:Hid (o.atoms.length≤1000000∧o.funs.length≤1000000∧o.preds.length≤1000000∧o.code.length≤1000000):=hD ⟨ho.la,ho.lf,ho.lp,ho.lc⟩
 have HT:Hid (tabOf o=if namesOk o=false then 7 else if dupB o then 11 else if entsOk o.code.length (o.preds.map entOf)=false then 7 else 0):=hD rfl
 have HNO:Hid (namesOk o=(o.atoms.all nameOk && o.funs.all (funOk 1) && (o.preds.map called).all (funOk 0))):=hD rfl
 generalize tabOf o=tb at HT
 have K0:=hD (⟨Box.new w _ _,za w _⟩:CkR w (w.alloc (.cells #[.slice A1 o.atoms.length c1,.slice A2 o.funs.length c2,.slice A3 o.preds.length c3,.slice A4 o.code.length c4] 27)) w.heap.size #[.slice A1 o.atoms.length c1,.slice A2 o.funs.length c2,.slice A3 o.preds.length c3,.slice A4 o.code.length c4])
 clear hv ho
 go_enter Tryz.func61,Tryz.ntmps61
 go_upto_region 1 with(fail)
 obtain⟨w1,hw1⟩:∃ w1,w.alloc (.cells #[.slice A1 o.atoms.length c1,.slice A2 o.funs.length c2,.slice A3 o.preds.length c3,.slice A4 o.code.length c4] 27)=w1:=⟨_,rfl⟩
 rw [hw1] at K0 ⊢
 obtain⟨g,hg⟩:∃ g,w.heap.size=g:=⟨_,rfl⟩
 rw [hg] at K0 ⊢
 have HG:=hD hg
 clear hw1 hg
 go_wp2
 go_loopw [3] (fun i wr=>∃ k:Nat,k≤o.atoms.length∧i=.int .i64 k∧Hid ((o.atoms.take k).all nameOk=true)∧Hid (CkR w wr g #[.slice A1 o.atoms.length c1,.slice A2 o.funs.length c2,.slice A3 o.preds.length c3,.slice A4 o.code.length c4])) (fun i _=>o.atoms.length - (intOf i).toNat)
 case atStart=>exact⟨0,by omega,rfl,hD (by simp),K0⟩
 obtain⟨k,hk,rfl,HA,HK⟩:=hrel
 clear K0
 have hlen:=HL.out.1
 have q0:=HK.out.ob.cell 0
 by_cases hlt:k<o.atoms.length
 case pos=>
  obtain⟨b,off,rfl,hb,hc0⟩:=zf3 HV.out.atoms k hlt
  have d0:=(HK.out.below.cell (p:=⟨b,off+k,none⟩) hb).trans hc0
  have hsz:=HWF.out.atoms _ (List.getElem_mem hlt)
  have HTK:=hD (ze6 nameOk o.atoms k hlt)
  have HNT:=hD (fun h=>zg7 nameOk o.atoms k hlt h)
  have HRN:=hD (fun w=>zy5 o.atoms[k] w hsz)
  generalize nameOk o.atoms[k]=nb at HTK HNT HRN
  generalize o.atoms[k]=s at d0 HRN
  clear hc0 hsz
  cases nb
  ·have HX:Hid (tb=7):=hD (by rw [HT.out,HNO.out,HNT.out rfl];rfl)
   go_wp2_with (go_at_call 102;refine(HRN.out _).mono ?_;rintro e w' ⟨rfl,rfl⟩)
   go_ret
   exact⟨by rw [HX.out];rfl,HK.out.below⟩
  ·have HA2:Hid ((o.atoms.take (k+1)).all nameOk=true):=hD (by rw [HTK.out,HA.out];rfl)
   go_wp2_with (go_at_call 102;refine(HRN.out _).mono ?_;rintro e w' ⟨rfl,rfl⟩)
   go_roundw
   case rel=>first | exact⟨k+1,by omega,by go_num,HA2,HK⟩ | exact⟨_,_,_,_,_,_,_,_,_,_,_,_,_,_,_,⟨k+1,by omega,by go_num,HA2,HK⟩,rfl⟩
   case measure=>simp [intOf];omega
 obtain rfl:k=o.atoms.length:=by omega
 have HN1:Hid (o.atoms.all nameOk=true):=hD (by have:=HA.out;rw [List.take_length] at this;exact this)
 clear hlt HA
 go_wp2
 clear q0 hlen
 have K1:=HK
 go_loopw [4] (fun i wr=>∃ k:Nat,k≤o.funs.length∧i=.int .i64 k∧Hid ((o.funs.take k).all (funOk 1)=true)∧Hid (CkR w wr g #[.slice A1 o.atoms.length c1,.slice A2 o.funs.length c2,.slice A3 o.preds.length c3,.slice A4 o.code.length c4])) (fun i _=>o.funs.length - (intOf i).toNat)
 case atStart=>exact⟨0,by omega,rfl,hD (by simp),K1⟩
 obtain⟨k,hk,rfl,HA,HK⟩:=hrel
 clear K1
 have hlen:=HL.out.2.1
 have q0:=HK.out.ob.cell 1
 by_cases hlt:k<o.funs.length
 case pos=>
  obtain⟨b,off,rfl,hb,hc0,hc1⟩:=zy1 HV.out.funs k hlt
  have d0:=(HK.out.below.cell (p:=⟨b,off+k * 2,none⟩) hb).trans hc0
  have d1:=(HK.out.below.cell (p:=⟨b,off+k * 2+1,none⟩) hb).trans hc1
  have hsz:=HWF.out.funs _ (List.getElem_mem hlt)
  have HTK:=hD (ze6 (funOk 1) o.funs k hlt)
  have HNT:=hD (fun h=>zg7 (funOk 1) o.funs k hlt h)
  obtain⟨fo,hfo⟩:∃ fo,fo=funOk 1 o.funs[k]:=⟨_,rfl⟩
  rw [← hfo] at HTK HNT
  unfold funOk at hfo
  have HE:=hD hfo
  have HRN:=hD (fun w=>zy5 o.funs[k].1 w hsz)
  clear hfo hc0 hc1 hsz
  generalize o.funs[k].1=s at d0 HE HRN
  generalize o.funs[k].2=n at d1 HE
  generalize nameOk s=nb at HE HRN
  cases nb
  ·have HX:Hid (tb=7):=hD (by rw [HT.out,HNO.out,HN1.out,HNT.out (by rw [HE.out];simp;try omega)];try rfl)
   go_wp2_with (go_at_call 102;refine(HRN.out _).mono ?_;rintro e w' ⟨rfl,rfl⟩)
   go_ret
   exact⟨by rw [HX.out];rfl,HK.out.below⟩
  ·by_cases h1:n<1
   ·have HX:Hid (tb=7):=hD (by rw [HT.out,HNO.out,HN1.out,HNT.out (by rw [HE.out];simp;try omega)];try rfl)
    go_wp2_with (go_at_call 102;refine(HRN.out _).mono ?_;rintro e w' ⟨rfl,rfl⟩)
    go_ret
    exact⟨by rw [HX.out];rfl,HK.out.below⟩
   ·by_cases h2:8<n
    ·have HX:Hid (tb=7):=hD (by rw [HT.out,HNO.out,HN1.out,HNT.out (by rw [HE.out];simp;try omega)];try rfl)
     go_wp2_with (go_at_call 102;refine(HRN.out _).mono ?_;rintro e w' ⟨rfl,rfl⟩)
     go_ret
     exact⟨by rw [HX.out];rfl,HK.out.below⟩
    ·have HA2:Hid ((o.funs.take (k+1)).all (funOk 1)=true):=hD (by rw [HTK.out,HA.out,HE.out];simp;omega)
     go_wp2_with (go_at_call 102;refine(HRN.out _).mono ?_;rintro e w' ⟨rfl,rfl⟩)
     go_roundw
     case rel=>first | exact⟨k+1,by omega,by go_num,HA2,HK⟩ | exact⟨_,_,_,_,_,_,_,_,_,_,_,_,_,_,_,_,_,_,_,_,_,_,_,_,_,_,_,_,_,_,_,_,_,_,⟨k+1,by omega,by go_num,HA2,HK⟩,rfl⟩
     case measure=>simp [intOf];omega
 obtain rfl:k=o.funs.length:=by omega
 have HN2:Hid (o.funs.all (funOk 1)=true):=hD (by have:=HA.out;rw [List.take_of_length_le (by simp)] at this;exact this)
 clear hlt HA
 go_wp2
 clear q0 hlen
 have K1:=HK
 go_loopw [5] (fun i wr=>∃ k:Nat,k≤o.preds.length∧i=.int .i64 k∧Hid (((o.preds.map called).take k).all (funOk 0)=true)∧Hid (CkR w wr g #[.slice A1 o.atoms.length c1,.slice A2 o.funs.length c2,.slice A3 o.preds.length c3,.slice A4 o.code.length c4])) (fun i _=>o.preds.length - (intOf i).toNat)
 case atStart=>exact⟨0,by omega,rfl,hD (by simp),K1⟩
 obtain⟨k,hk,rfl,HA,HK⟩:=hrel
 clear K1
 have hlen:=HL.out.2.2.1
 have q0:=HK.out.ob.cell 2
 by_cases hlt:k<o.preds.length
 case pos=>
  obtain⟨b,off,rfl,hb,hc0,hc1,hc2⟩:=zd1 HV.out.preds k hlt
  have d0:=(HK.out.below.cell (p:=⟨b,off+k * 3,none⟩) hb).trans hc0
  have d1:=(HK.out.below.cell (p:=⟨b,off+k * 3+1,none⟩) hb).trans hc1
  have hsz:=HWF.out.preds _ (List.getElem_mem hlt)
  have hlt2:k<(o.preds.map called).length:=by rw [List.length_map];exact hlt
  have HTK:=hD (ze6 (funOk 0) (o.preds.map called) k hlt2)
  have HNT:=hD (fun h=>zg7 (funOk 0) (o.preds.map called) k hlt2 h)
  obtain⟨fo,hfo⟩:∃ fo,fo=funOk 0 (o.preds.map called)[k]:=⟨_,rfl⟩
  rw [← hfo] at HTK HNT
  have hfo2:fo=(nameOk o.preds[k].1 && decide (0≤o.preds[k].2.1) && decide (o.preds[k].2.1≤8)):=by rw [hfo,List.getElem_map];rfl
  have HE:=hD hfo2
  have HRN:=hD (fun w=>zy5 o.preds[k].1 w hsz)
  clear hfo hfo2 hc0 hc1 hc2 hsz hlt2
  generalize o.preds[k].1=s at d0 HE HRN
  generalize o.preds[k].2.1=n at d1 HE
  generalize nameOk s=nb at HE HRN
  cases nb
  ·have HX:Hid (tb=7):=hD (by rw [HT.out,HNO.out,HN1.out,HN2.out,HNT.out (by rw [HE.out];simp;try omega)];try rfl)
   go_wp2_with (go_at_call 102;refine(HRN.out _).mono ?_;rintro e w' ⟨rfl,rfl⟩)
   go_ret
   exact⟨by rw [HX.out];rfl,HK.out.below⟩
  ·by_cases h1:n<0
   ·have HX:Hid (tb=7):=hD (by rw [HT.out,HNO.out,HN1.out,HN2.out,HNT.out (by rw [HE.out];simp;try omega)];try rfl)
    go_wp2_with (go_at_call 102;refine(HRN.out _).mono ?_;rintro e w' ⟨rfl,rfl⟩)
    go_ret
    exact⟨by rw [HX.out];rfl,HK.out.below⟩
   ·by_cases h2:8<n
    ·have HX:Hid (tb=7):=hD (by rw [HT.out,HNO.out,HN1.out,HN2.out,HNT.out (by rw [HE.out];simp;try omega)];try rfl)
     go_wp2_with (go_at_call 102;refine(HRN.out _).mono ?_;rintro e w' ⟨rfl,rfl⟩)
     go_ret
     exact⟨by rw [HX.out];rfl,HK.out.below⟩
    ·have HA2:Hid (((o.preds.map called).take (k+1)).all (funOk 0)=true):=hD (by rw [HTK.out,HA.out,HE.out];simp;omega)
     go_wp2_with (go_at_call 102;refine(HRN.out _).mono ?_;rintro e w' ⟨rfl,rfl⟩)
     go_roundw
     case rel=>first | exact⟨k+1,by omega,by go_num,HA2,HK⟩ | exact⟨_,_,_,_,_,_,_,_,_,_,_,_,_,_,_,_,_,_,_,_,_,_,_,_,_,_,_,_,_,_,_,_,_,_,⟨k+1,by omega,by go_num,HA2,HK⟩,rfl⟩
     case measure=>simp [intOf];omega
 obtain rfl:k=o.preds.length:=by omega
 have HN3:Hid ((o.preds.map called).all (funOk 0)=true):=hD (by have:=HA.out;rw [List.take_of_length_le (by simp)] at this;exact this)
 clear hlt HA
 go_wp2
 clear q0 hlen
 have HT2:Hid (tb=if dupB o then 11 else if entsOk o.code.length (o.preds.map entOf)=false then 7 else 0):=hD (by rw [HT.out,HNO.out,HN1.out,HN2.out,HN3.out];rfl)
 have HDO:Hid (dupB o=(twiceB o.atoms || twiceB o.funs || twiceB (o.preds.map called))):=hD rfl
 clear HT HNO HN1 HN2 HN3
 have K1:=HK
 clear HK
 go_loopw [6,7] (fun i kk wr=>∃ k:Nat,k≤o.atoms.length∧i=.int .i64 k∧Hid ((o.atoms.take k).Nodup)∧Hid (CkR w wr g #[.slice A1 o.atoms.length c1,.slice A2 o.funs.length c2,.slice A3 o.preds.length c3,.slice A4 o.code.length c4])) (fun i _ _=>o.atoms.length - (intOf i).toNat)
 case atStart=>exact⟨0,by omega,rfl,hD (by simp),K1⟩
 obtain⟨k,hk,rfl,HA,HK⟩:=hrel
 clear K1
 have hlen:=HL.out.1
 have q0:=HK.out.ob.cell 0
 by_cases hlt:k<o.atoms.length
 case pos=>
  have hltk:=hlt
  obtain⟨b,off,rfl,hb,hck⟩:=zf3 HV.out.atoms k hlt
  go_wp2
  have K2:=HK
  go_loopw [7] (fun j wr=>∃ m:Nat,m≤k∧j=.int .i64 m∧Hid (o.atoms[k]'hltk ∉ o.atoms.take m)∧Hid (CkR w wr g #[.slice (some ⟨b,off,none⟩) o.atoms.length c1,.slice A2 o.funs.length c2,.slice A3 o.preds.length c3,.slice A4 o.code.length c4])) (fun j _=>k - (intOf j).toNat)
  case atStart=>exact⟨0,by omega,rfl,hD (by simp),K2⟩
  obtain⟨m,hm,rfl,HM,HK2⟩:=hrel
  clear K2 HK q0
  have q0:=HK2.out.ob.cell 0
  by_cases hlm:m<k
  case pos=>
   obtain⟨b2,off2,he,hb2,hcm⟩:=zf3 HV.out.atoms m (by omega)
   obtain⟨rfl,rfl⟩:b2=b∧off2=off:=by simpa [eq_comm] using he
   clear he hb2
   have d0:=(HK2.out.below.cell (p:=⟨b2,off2+k,none⟩) hb).trans hck
   have d1:=(HK2.out.below.cell (p:=⟨b2,off2+m,none⟩) hb).trans hcm
   clear hcm
   by_cases heq:o.atoms[k]=o.atoms[m]
   ·have hst:=zg16 heq
    have HX:Hid (tb=11):=hD (by rw [HT2.out,HDO.out,zx4 o.atoms k hlt (by rw [heq];exact zd4 _ m k (by omega) hlm)];rfl)
    clear heq
    go_upto_region 22 with(fail)
    go_quiet (fail)
    go_wp2
    go_ret
    exact⟨by rw [HX.out];rfl,(HK2.out.drewN _).below⟩
   ·have HM2:=hD (zl3 _ _ m (by omega) HM.out heq)
    have hst:=zz1 heq
    clear heq
    go_upto_region 22 with(fail)
    go_quiet (fail)
    have HK3:=hD (HK2.out.drewN nq)
    go_wp2
    go_roundw
    case rel=>first | exact⟨m+1,by omega,by go_num,HM2,HK3⟩ | exact⟨_,_,_,_,_,_,_,_,_,_,_,_,_,_,_,_,_,⟨m+1,by omega,by go_num,HM2,HK3⟩,rfl⟩
    case measure=>simp [intOf];omega
  obtain rfl:m=k:=by omega
  have HA2:Hid ((o.atoms.take (m+1)).Nodup):=hD (zx3 _ m hltk HA.out HM.out)
  clear hlm
  go_wp2
  go_roundw
  case rel=>first | exact⟨m+1,by omega,by go_num,HA2,HK2⟩ | exact⟨_,_,_,_,_,_,_,_,_,_,_,_,_,_,_,_,_,_,_,_,_,_,_,_,_,⟨m+1,by omega,by go_num,HA2,HK2⟩,rfl⟩
  case measure=>simp [intOf];omega
 obtain rfl:k=o.atoms.length:=by omega
 have HD1:Hid (twiceB o.atoms=false):=hD (za7 _ (by have:=HA.out;rw [List.take_length] at this;exact this))
 clear hlt HA
 go_wp2
 clear q0 hlen
 have K1:=HK
 clear HK
 go_loopw [8,9] (fun i kk wr=>∃ k:Nat,k≤o.funs.length∧i=.int .i64 k∧Hid ((o.funs.take k).Nodup)∧Hid (CkR w wr g #[.slice A1 o.atoms.length c1,.slice A2 o.funs.length c2,.slice A3 o.preds.length c3,.slice A4 o.code.length c4])) (fun i _ _=>o.funs.length - (intOf i).toNat)
 case atStart=>exact⟨0,by omega,rfl,hD (by simp),K1⟩
 obtain⟨k,hk,rfl,HA,HK⟩:=hrel
 clear K1
 have hlen:=HL.out.2.1
 have q0:=HK.out.ob.cell 1
 by_cases hlt:k<o.funs.length
 case pos=>
  have hltk:=hlt
  obtain⟨b,off,rfl,hb,hck0,hck1⟩:=zy1 HV.out.funs k hlt
  go_wp2
  have K2:=HK
  go_loopw [9] (fun j wr=>∃ m:Nat,m≤k∧j=.int .i64 m∧Hid (o.funs[k]'hltk ∉ o.funs.take m)∧Hid (CkR w wr g #[.slice A1 o.atoms.length c1,.slice (some ⟨b,off,none⟩) o.funs.length c2,.slice A3 o.preds.length c3,.slice A4 o.code.length c4])) (fun j _=>k - (intOf j).toNat)
  case atStart=>exact⟨0,by omega,rfl,hD (by simp),K2⟩
  obtain⟨m,hm,rfl,HM,HK2⟩:=hrel
  clear K2 HK q0
  have q0:=HK2.out.ob.cell 1
  by_cases hlm:m<k
  case pos=>
   obtain⟨b2,off2,he,hb2,hcm0,hcm1⟩:=zy1 HV.out.funs m (by omega)
   obtain⟨rfl,rfl⟩:b2=b∧off2=off:=by simpa [eq_comm] using he
   clear he hb2
   have d0:=(HK2.out.below.cell (p:=⟨b2,off2+k * 2,none⟩) hb).trans hck0
   have d1:=(HK2.out.below.cell (p:=⟨b2,off2+k * 2+1,none⟩) hb).trans hck1
   have d2:=(HK2.out.below.cell (p:=⟨b2,off2+m * 2,none⟩) hb).trans hcm0
   have d3:=(HK2.out.below.cell (p:=⟨b2,off2+m * 2+1,none⟩) hb).trans hcm1
   clear hcm0 hcm1
   have hml:m<o.funs.length:=by omega
   have hg1:o.funs[k]=(o.funs[k].1,o.funs[k].2):=rfl
   have hg2:o.funs[m]=(o.funs[m].1,o.funs[m].2):=rfl
   have HNE:Hid (¬ (o.funs[k].1=o.funs[m].1∧o.funs[k].2=o.funs[m].2)→o.funs[k] ∉ o.funs.take (m+1)):=hD (fun h=>zl3 _ _ m hml HM.out (fun h2=>h ⟨by rw [h2],by rw [h2]⟩))
   have HEQ:Hid ((o.funs[k].1=o.funs[m].1∧o.funs[k].2=o.funs[m].2)→tb=11):=hD (fun h=>by rw [HT2.out,HDO.out,zx4 o.funs k hltk (by rw [show o.funs[k]=o.funs[m] from Prod.ext h.1 h.2];exact zd4 _ m k hml hlm)];simp)
   clear hg1 hg2
   generalize o.funs[k].1=s1 at d0 HNE HEQ
   generalize o.funs[k].2=n1 at d1 HNE HEQ
   generalize o.funs[m].1=s2 at d2 HNE HEQ
   generalize o.funs[m].2=n2 at d3 HNE HEQ
   by_cases hs:s1=s2
   ·have hst:(s1.toList=s2.toList)=True:=by simp [hs]
    by_cases hn:n1=n2
    ·have hnt:(n1=n2)=True:=by simp [hn]
     have HX:Hid (tb=11):=hD (HEQ.out ⟨hs,hn⟩)
     clear hs hn
     go_upto_region 30 with(fail)
     go_quiet (fail)
     go_wp2
     go_ret
     exact⟨by rw [HX.out];rfl,(HK2.out.drewN _).below⟩
    ·have hnt:(n1=n2)=False:=by simp [hn]
     have HM2:=hD (HNE.out (fun h=>hn h.2))
     clear hs hn
     go_upto_region 30 with(fail)
     go_quiet (fail)
     have HK3:=hD (HK2.out.drewN nq)
     go_wp2
     go_roundw
     case rel=>first | exact⟨m+1,by omega,by go_num,HM2,HK3⟩ | exact⟨_,_,_,_,_,_,_,_,_,_,_,_,_,_,_,_,_,⟨m+1,by omega,by go_num,HM2,HK3⟩,rfl⟩
     case measure=>simp [intOf];omega
   ·have hst:(s1.toList=s2.toList)=False:=by have:=zz1 hs;simpa using this
    have HM2:=hD (HNE.out (fun h=>hs h.1))
    clear hs
    go_upto_region 30 with(fail)
    go_quiet (fail)
    have HK3:=hD (HK2.out.drewN nq)
    go_wp2
    go_roundw
    case rel=>first | exact⟨m+1,by omega,by go_num,HM2,HK3⟩ | exact⟨_,_,_,_,_,_,_,_,_,_,_,_,_,_,_,_,_,⟨m+1,by omega,by go_num,HM2,HK3⟩,rfl⟩
    case measure=>simp [intOf];omega
  obtain rfl:m=k:=by omega
  have HA2:Hid ((o.funs.take (m+1)).Nodup):=hD (zx3 _ m hltk HA.out HM.out)
  clear hlm
  go_wp2
  go_roundw
  case rel=>first | exact⟨m+1,by omega,by go_num,HA2,HK2⟩ | exact⟨_,_,_,_,_,_,_,_,_,_,_,_,_,_,_,_,_,_,_,_,_,_,_,_,_,⟨m+1,by omega,by go_num,HA2,HK2⟩,rfl⟩
  case measure=>simp [intOf];omega
 obtain rfl:k=o.funs.length:=by omega
 have HD2:=hD (za7 _ (by have:=HA.out;rw [List.take_of_length_le (by simp)] at this;exact this))
 clear hlt HA
 go_wp2
 clear q0 hlen
 have K1:=HK
 clear HK
 go_loopw [10,11] (fun i kk wr=>∃ k:Nat,k≤o.preds.length∧i=.int .i64 k∧Hid (((o.preds.map called).take k).Nodup)∧Hid (CkR w wr g #[.slice A1 o.atoms.length c1,.slice A2 o.funs.length c2,.slice A3 o.preds.length c3,.slice A4 o.code.length c4])) (fun i _ _=>o.preds.length - (intOf i).toNat)
 case atStart=>exact⟨0,by omega,rfl,hD (by simp),K1⟩
 obtain⟨k,hk,rfl,HA,HK⟩:=hrel
 clear K1
 have hlen:=HL.out.2.2.1
 have q0:=HK.out.ob.cell 2
 by_cases hlt:k<o.preds.length
 case pos=>
  have hltk:k<(o.preds.map called).length:=by rw [List.length_map];exact hlt
  obtain⟨b,off,rfl,hb,hck0,hck1,hck2⟩:=zd1 HV.out.preds k hlt
  go_wp2
  have K2:=HK
  go_loopw [11] (fun j wr=>∃ m:Nat,m≤k∧j=.int .i64 m∧Hid ((o.preds.map called)[k]'hltk ∉ (o.preds.map called).take m)∧Hid (CkR w wr g #[.slice A1 o.atoms.length c1,.slice A2 o.funs.length c2,.slice (some ⟨b,off,none⟩) o.preds.length c3,.slice A4 o.code.length c4])) (fun j _=>k - (intOf j).toNat)
  case atStart=>exact⟨0,by omega,rfl,hD (by simp),K2⟩
  obtain⟨m,hm,rfl,HM,HK2⟩:=hrel
  clear K2 HK q0
  have q0:=HK2.out.ob.cell 2
  by_cases hlm:m<k
  case pos=>
   obtain⟨b2,off2,he,hb2,hcm0,hcm1,hcm2⟩:=zd1 HV.out.preds m (by omega)
   obtain⟨rfl,rfl⟩:b2=b∧off2=off:=by simpa [eq_comm] using he
   clear he hb2
   have d0:=(HK2.out.below.cell (p:=⟨b2,off2+k * 3,none⟩) hb).trans hck0
   have d1:=(HK2.out.below.cell (p:=⟨b2,off2+k * 3+1,none⟩) hb).trans hck1
   have d2:=(HK2.out.below.cell (p:=⟨b2,off2+m * 3,none⟩) hb).trans hcm0
   have d3:=(HK2.out.below.cell (p:=⟨b2,off2+m * 3+1,none⟩) hb).trans hcm1
   clear hcm0 hcm1 hcm2
   have hml:m<(o.preds.map called).length:=by omega
   have hg1:(o.preds.map called)[k]=(o.preds[k].1,o.preds[k].2.1):=by rw [List.getElem_map];rfl
   have hg2:(o.preds.map called)[m]=(o.preds[m].1,o.preds[m].2.1):=by rw [List.getElem_map];rfl
   have HNE:Hid (¬ (o.preds[k].1=o.preds[m].1∧o.preds[k].2.1=o.preds[m].2.1)→(o.preds.map called)[k] ∉ (o.preds.map called).take (m+1)):=hD (fun h=>zl3 _ _ m hml HM.out (by rw [hg1,hg2];intro h2;injection h2 with h3 h4;exact h ⟨h3,h4⟩))
   have HEQ:Hid ((o.preds[k].1=o.preds[m].1∧o.preds[k].2.1=o.preds[m].2.1)→tb=11):=hD (fun h=>by rw [HT2.out,HDO.out,zx4 (o.preds.map called) k hltk (by rw [show(o.preds.map called)[k]=(o.preds.map called)[m] by rw [hg1,hg2,h.1,h.2]];exact zd4 _ m k hml hlm)];simp)
   clear hg1 hg2
   generalize o.preds[k].1=s1 at d0 HNE HEQ
   generalize o.preds[k].2.1=n1 at d1 HNE HEQ
   generalize o.preds[m].1=s2 at d2 HNE HEQ
   generalize o.preds[m].2.1=n2 at d3 HNE HEQ
   by_cases hs:s1=s2
   ·have hst:=zg16 hs
    by_cases hn:n1=n2
    ·have hnt:(n1 == n2)=true:=by simpa using hn
     have HX:Hid (tb=11):=hD (HEQ.out ⟨hs,hn⟩)
     clear hs hn
     go_upto_region 38 with(fail)
     go_quiet (fail)
     go_wp2
     go_ret
     exact⟨by rw [HX.out];rfl,(HK2.out.drewN _).below⟩
    ·have hnt:(n1 == n2)=false:=by simpa using hn
     have HM2:=hD (HNE.out (fun h=>hn h.2))
     clear hs hn
     go_upto_region 38 with(fail)
     go_quiet (fail)
     have HK3:=hD (HK2.out.drewN nq)
     go_wp2
     go_roundw
     case rel=>first | exact⟨m+1,by omega,by go_num,HM2,HK3⟩ | exact⟨_,_,_,_,_,_,_,_,_,_,_,_,_,_,_,_,_,_,_,_,_,_,_,_,_,_,_,_,_,_,_,_,_,_,⟨m+1,by omega,by go_num,HM2,HK3⟩,rfl⟩
     case measure=>simp [intOf];omega
   ·have hst:=zz1 hs
    have HM2:=hD (HNE.out (fun h=>hs h.1))
    clear hs
    go_upto_region 38 with(fail)
    go_quiet (fail)
    have HK3:=hD (HK2.out.drewN nq)
    go_wp2
    go_roundw
    case rel=>first | exact⟨m+1,by omega,by go_num,HM2,HK3⟩ | exact⟨_,_,_,_,_,_,_,_,_,_,_,_,_,_,_,_,_,_,_,_,_,_,_,_,_,_,_,_,_,_,_,_,_,_,⟨m+1,by omega,by go_num,HM2,HK3⟩,rfl⟩
    case measure=>simp [intOf];omega
  obtain rfl:m=k:=by omega
  have HA2:Hid (((o.preds.map called).take (m+1)).Nodup):=hD (zx3 _ m hltk HA.out HM.out)
  clear hlm
  go_wp2
  go_roundw
  case rel=>first | exact⟨m+1,by omega,by go_num,HA2,HK2⟩ | exact⟨_,_,_,_,_,_,_,_,_,_,_,_,_,_,_,_,_,_,_,_,_,_,_,_,_,_,_,_,_,_,_,_,_,_,_,_,_,_,_,_,_,_,⟨m+1,by omega,by go_num,HA2,HK2⟩,rfl⟩
  case measure=>simp [intOf];omega
 obtain rfl:k=o.preds.length:=by omega
 have HD3:=hD (za7 _ (by have:=HA.out;rw [List.take_of_length_le (by simp)] at this;exact this))
 clear hlt HA
 go_wp2
 clear q0 hlen
 have HT3:Hid (tb=if entsOk o.code.length (o.preds.map entOf)=false then 7 else 0):=hD (by rw [HT2.out,HDO.out,HD1.out,HD2.out,HD3.out];rfl)
 clear HT2 HDO HD1 HD2 HD3
 have K1:=HK
 clear HK
 go_loopw [12,13,14] (fun i ev kk wr=>∃ k:Nat,k≤o.preds.length∧i=.int .i64 k∧Hid (EntsTo o.code.length ((o.preds.map entOf).take k))∧Hid (CkR w wr g #[.slice A1 o.atoms.length c1,.slice A2 o.funs.length c2,.slice A3 o.preds.length c3,.slice A4 o.code.length c4])) (fun i _ _ _=>o.preds.length - (intOf i).toNat)
 case atStart=>exact⟨0,by omega,rfl,hD (zy17 _),K1⟩
 obtain⟨k,hk,rfl,HA,HK⟩:=hrel
 clear K1
 have hlen:=HL.out.2.2.1
 have hlenc:=HL.out.2.2.2
 have q0:=HK.out.ob.cell 2
 have q3:=HK.out.ob.cell 3
 by_cases hlt:k<o.preds.length
 case pos=>
  have hltk:k<(o.preds.map entOf).length:=by rw [List.length_map];exact hlt
  obtain⟨b,off,rfl,hb,hck0,hck1,hck2⟩:=zd1 HV.out.preds k hlt
  have d2:=(HK.out.below.cell (p:=⟨b,off+k * 3+2,none⟩) hb).trans hck2
  clear hck0 hck1
  have hge:(o.preds.map entOf)[k]=o.preds[k].2.2:=by rw [List.getElem_map];rfl
  have HTK:Hid ((o.preds.map entOf).take (k+1)=(o.preds.map entOf).take k ++ [o.preds[k].2.2]):=hD (by rw [List.take_succ_eq_append_getElem hltk,hge])
  have HBAD:Hid (entryOk o.code.length o.preds[k].2.2=false→tb=7):=hD (fun h=>by rw [HT3.out,zx17 hltk (by rw [hge];exact h)];rfl)
  have HTW:Hid (o.preds[k].2.2≠65535→o.preds[k].2.2 ∈ (o.preds.map entOf).take k→tb=7):=hD (fun h1 h2=>by rw [HT3.out,zn11 hltk (by rw [hge];exact h1) (by rw [hge];exact h2)];rfl)
  clear hge
  generalize o.preds[k].2.2=e at d2 hck2 HTK HBAD HTW
  have HEO:Hid (entryOk o.code.length e=(decide (e=65535) || (decide (0≤e) && decide (e<(o.code.length:Int))))):=hD (by first | rfl | (unfold entryOk;simp) | (unfold entryOk;simp;omega))
  have inner:True:=trivial
  by_cases h65:e=65535
  ·have hne:(e != 65535)=false:=by simp [h65]
   have heq5:(e == 65535)=true:=by simp [h65]
   have HN1:Hid (EntsTo o.code.length ((o.preds.map entOf).take (k+1))):=hD (by rw [HTK.out,h65];exact zd14 HA.out)
   clear h65
   go_wp2
   have K2:=HK
   go_loopw [14] (fun j wr=>∃ m:Nat,m≤k∧j=.int .i64 m∧Hid (CkR w wr g #[.slice A1 o.atoms.length c1,.slice A2 o.funs.length c2,.slice (some ⟨b,off,none⟩) o.preds.length c3,.slice A4 o.code.length c4])) (fun j _=>k - (intOf j).toNat)
   case atStart=>exact⟨0,by omega,rfl,K2⟩
   obtain⟨m,hm,rfl,HK2⟩:=hrel
   clear K2 HK q0 q3 d2
   by_cases hlm:m<k
   case pos=>
    go_wp2
    go_roundw
    case rel=>exact⟨m+1,by omega,by go_num,HK2⟩
    case measure=>simp [intOf];omega
   obtain rfl:m=k:=by omega
   clear hlm
   go_wp2
   go_roundw
   case rel=>exact⟨m+1,by omega,by go_num,HN1,HK2⟩
   case measure=>simp [intOf];omega
  ·have hne:(e != 65535)=true:=by simp [h65]
   have heq5:(e == 65535)=false:=by simp [h65]
   by_cases h0:e<0
   ·have HX:Hid (tb=7):=hD (HBAD.out (by rw [HEO.out];simp;omega))
    go_wp2
    go_ret
    exact⟨by rw [HX.out];rfl,HK.out.below⟩
   by_cases h1:(o.code.length:Int)≤e
   ·have HX:Hid (tb=7):=hD (HBAD.out (by rw [HEO.out];simp;omega))
    go_wp2
    go_ret
    exact⟨by rw [HX.out];rfl,HK.out.below⟩
   go_wp2
   have K2:=HK
   go_loopw [14] (fun j wr=>∃ m:Nat,m≤k∧j=.int .i64 m∧Hid (e ∉ (o.preds.map entOf).take m)∧Hid (CkR w wr g #[.slice A1 o.atoms.length c1,.slice A2 o.funs.length c2,.slice (some ⟨b,off,none⟩) o.preds.length c3,.slice A4 o.code.length c4])) (fun j _=>k - (intOf j).toNat)
   case atStart=>exact⟨0,by omega,rfl,hD (by simp),K2⟩
   obtain⟨m,hm,rfl,HM,HK2⟩:=hrel
   clear K2 HK q0 q3 d2
   have q0:=HK2.out.ob.cell 2
   by_cases hlm:m<k
   case pos=>
    obtain⟨b2,off2,he,hb2,hcm0,hcm1,hcm2⟩:=zd1 HV.out.preds m (by omega)
    obtain⟨rfl,rfl⟩:b2=b∧off2=off:=by simpa [eq_comm] using he
    clear he hb2
    have d2:=(HK2.out.below.cell (p:=⟨b2,off2+m * 3+2,none⟩) hb).trans hcm2
    clear hcm0 hcm1 hcm2
    have hml:m<(o.preds.map entOf).length:=by omega
    have hg2:(o.preds.map entOf)[m]=o.preds[m].2.2:=by rw [List.getElem_map];rfl
    have HNE:Hid (o.preds[m].2.2≠e→e ∉ (o.preds.map entOf).take (m+1)):=hD (fun h=>zl3 _ _ m hml HM.out (by rw [hg2];exact fun h2=>h h2.symm))
    have HEQ:Hid (o.preds[m].2.2=e→tb=7):=hD (fun h=>HTW.out h65 (by rw [← h,← hg2];exact zd4 _ m k hml hlm))
    clear hg2
    generalize o.preds[m].2.2=e2 at d2 HNE HEQ
    by_cases hee:e2=e
    ·have hst:(e2 == e)=true:=by simpa using hee
     have HX:Hid (tb=7):=hD (HEQ.out hee)
     clear hee
     go_wp2
     go_ret
     exact⟨by rw [HX.out];rfl,HK2.out.below⟩
    ·have hst:(e2 == e)=false:=by simpa using hee
     have HM2:=hD (HNE.out hee)
     clear hee
     go_wp2
     go_roundw
     case rel=>first | exact⟨m+1,by omega,by go_num,HM2,HK2⟩ | exact⟨_,_,_,_,_,_,_,_,_,_,_,_,_,_,_,_,_,_,⟨m+1,by omega,by go_num,HM2,HK2⟩,rfl⟩
     case measure=>simp [intOf];omega
   obtain rfl:m=k:=by omega
   have HN1:Hid (EntsTo o.code.length ((o.preds.map entOf).take (m+1))):=hD (by
    rw [HTK.out,show e=((e.toNat:Nat):Int) by omega]
    exact zf14 HA.out (by omega) (by rw [show((e.toNat:Nat):Int)=e by omega];exact HM.out))
   clear hlm
   go_wp2
   go_roundw
   case rel=>first | exact⟨m+1,by omega,by go_num,HN1,HK2⟩ | exact⟨_,_,_,_,_,_,_,_,_,_,_,_,_,_,_,_,_,_,_,_,_,_,_,_,_,_,_,_,_,_,_,_,_,_,_,_,_,_,_,_,_,_,_,_,_,_,⟨m+1,by omega,by go_num,HN1,HK2⟩,rfl⟩
   case measure=>simp [intOf];omega
 obtain rfl:k=o.preds.length:=by omega
 have HX:Hid (tb=0):=hD (by
  rw [HT3.out,zw17 (by have:=HA.out;rw [List.take_of_length_le (by simp)] at this;exact this)];rfl)
 clear hlt HA
 go_wp2
 go_ret
 exact⟨by rw [HX.out];rfl,HK.out.below⟩
end Go.Proofs.YtlmbiafloiompaaGreatDoor
