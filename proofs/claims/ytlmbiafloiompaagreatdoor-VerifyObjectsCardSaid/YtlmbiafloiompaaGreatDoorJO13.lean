/-
 verify's walk (layer 11): come,a State brought to a place.
-/
import Derived.Test.YtlmbiafloiompaaGreatDoorJO10
import Derived.Test.YtlmbiafloiompaaGreatDoorJO12
set_option linter.unusedVariables false
set_option linter.unusedSimpArgs false
namespace Go.Proofs.YtlmbiafloiompaaGreatDoor
open Go Go.RowKit
set_option maxRecDepth 4000
theorem st_und:∃ d,Tryz.prog.underlying 58=some d∧d.isRow=true:=by
 have hr:=st_row
 cases hu:Tryz.prog.underlying 58 with
 | none=>rw [hu] at hr;exact absurd hr (by decide)
 | some d=>
  rw [hu] at hr
  exact⟨d,rfl,Option.some.inj hr⟩
theorem zs1 {ops:Array Oper} {S:World→Prop} {oi:Oper} {a:Act} (hw:Region.wanted oi (yielded ops a.tmps)=true) (x:Operand) (ho:oi.op=.load 58 x)
  (b o:Nat) (hx:a.eval x=.pointer (some ⟨b,o,none⟩)) (A:Array Value) (hA:A.size=21) (hS:∀ w,S w→w.rangeAt b o A.toList):YieldsIf Tryz.prog ops S oi (.agg A) a:=by
 obtain⟨d,hd,hd'⟩:=st_und
 have h:=yieldsIf_load_mid (P:=Tryz.prog) hw 58 x ho b o hx A.toList d hS hd hd' (by rw [Array.length_toList,hA];exact zp3)
 rwa [Array.toArray_toList] at h
theorem zc2 {w:World} {g:Nat} {t:TypeId} {A:Array Value} (h:Box w g t A):w.rangeAt g 0 A.toList:=fun j v hv=>by
 rw [h.cell,Nat.zero_add,← Array.getElem?_toList]
 exact hv
theorem zu3 {ops:Array Oper} {rest:List Oper} {op:Oper} {a:Act} {w:World} {Q:Exit→Act→World→Prop} (hgd:op.guard=none) (x:Operand) (ho:op.op=.load 58 x)
  (g o:Nat) (hx:a.eval x=.pointer (some ⟨g,o,none⟩)) (A:Array Value) (hb:w.rangeAt g o A.toList) (hs:A.size=21)
  (h:wpList Tryz.prog ops Q rest (a.put op.dst (.agg A)) w):wpList Tryz.prog ops Q (op :: rest) a w:=by
 obtain⟨d,hd,hd'⟩:=st_und
 refine wpList_load_mid hgd 58 x ho g o hx A.toList d hb hd hd' (by rw [Array.length_toList,hs];exact zp3) ?_
 rwa [Array.toArray_toList]
theorem zd6 {ops:Array Oper} {rest:List Oper} {op:Oper} {a:Act} {w:World} {Q:Exit→Act→World→Prop} (hgd:op.guard=none) (x y:Operand) (ho:op.op=.store 58 x y)
  (g o:Nat) (A:Array Value) (hx:a.eval x=.pointer (some ⟨g,o,none⟩)) (hy:a.eval y=.agg A) (ht:w.there g o 21) (hs:A.size=21) (h1:A.all (·.oneCell')=true)
  (h:wpList Tryz.prog ops Q rest (a.put op.dst undef) (w.setCells g o A.toList)):wpList Tryz.prog ops Q (op :: rest) a w:=
 wpList_store_mid hgd 58 x y ho g o A hx hy (by rw [hs];exact ht) (by rw [hs];exact zp3) h1 h
theorem comeV_new {p:VPl} {s:VSt} (h:p.here=false):comeV p s={ { p with s:=s } with here:=true }:=by unfold comeV;rw [if_pos h]
theorem comeV_bad {p:VPl} {s:VSt} (h:p.here=true) (h2:fitsV p.s s=false):comeV p s={ p with bad:=true }:=by unfold comeV;rw [if_neg (by rw [h];decide),if_pos h2]
theorem zn19 {p:VPl} {s:VSt} (h:p.here=true) (h2:fitsV p.s s=true):comeV p s={ p with s:=joinV p.s s }:=by unfold comeV;rw [if_neg (by rw [h];decide),if_neg (by rw [h2];decide)]
theorem zj9 {P:List VPl} {n:Nat} (hn:n<P.length) (s:VSt):bringV P n s=P.set n (comeV P[n] s):=by
 unfold bringV
 rw [Int.toNat_natCast]
 apply List.ext_getElem?
 intro j
 rw [List.getElem?_modify,List.getElem?_set]
 by_cases e:n=j
 ·subst e
  rw [if_pos rfl,if_pos hn,List.getElem?_eq_getElem hn]
  simp
 ·rw [if_neg e]
  cases P[j]? <;> simp [e]
set_option maxHeartbeats 4000000 in
theorem come_any {w:World} {gw g:Nat} {va vf vp vc:Value} {P:List VPl} (h:WkAt w gw g va vf vp vc P) (hP:PlOk P) (n:Nat) (hn:n<P.length) (hm:P.length≤1024) {s:VSt} (hs:StOk s) :
  Calls Tryz.prog 53 #[.pointer (some ⟨gw,0,none⟩),.int .i64 n,.agg (stA s)] w fun e w'=>e=.returned (.tuple #[])∧Fr (fun k=>k=g) w w'∧Box w' g 133 (plA (bringV P n s)):=by
 obtain⟨gx,hgx⟩:∃ gx,w.heap.size=gx:=⟨_,rfl⟩
 have HB:=hD (za w (.cells (stA s) 58))
 have HX:=hD (Box.new w 58 (stA s))
 have HA:=hD (h.pl.alloc (.cells (stA s) 58))
 have HGL:=hD h.pl.lt
 have c4:=(h.wk.alloc (.cells (stA s) 58)).cell 4
 have hpn:=hP P[n] (List.getElem_mem hn)
 have HPO:=hD hP
 have HST0:=hD hpn
 have HSB:=hD (zh hs)
 have HSA:=hD (zh hpn)
 have H1B:=hD (zu1 s)
 have HSJ:=hD (zh (hpn.join hs))
 have H1J:=hD (zu1 (joinV P[n].s s))
 have HFI:=hD (fun w=>fits_st hpn hs w)
 have HWI:=hD (fun w=>with_st hpn hs w)
 have HBR:=hD (zj9 hn s)
 have HP1:Hid (putL (plA P) (n * 23) (stA s).toList=plA (P.set n { P[n] with s:=s })):=hD (zb15 hP hn hs)
 have HP2:Hid ((plA (P.set n { P[n] with s:=s })).setIfInBounds (n * 23+21) (.bool true)=plA (P.set n { { P[n] with s:=s } with here:=true })):=hD (by
  have:=plA_here (P:=P.set n { P[n] with s:=s }) (hP.set hs) (n:=n) (by rw [List.length_set];exact hn) true
  rw [this]
  simp)
 have HP3:Hid ((plA P).setIfInBounds (n * 23+22) (.bool true)=plA (P.set n { P[n] with bad:=true })):=hD (plA_bad hP hn true)
 have HP4:Hid (putL (plA P) (n * 23) (stA (joinV P[n].s s)).toList=plA (P.set n { P[n] with s:=joinV P[n].s s })):=hD (zb15 hP hn (hpn.join hs))
 have HNEW:Hid (P[n].here=false→comeV P[n] s={ { P[n] with s:=s } with here:=true }):=hD comeV_new
 have HBAD:Hid (P[n].here=true→fitsV P[n].s s=false→comeV P[n] s={ P[n] with bad:=true }):=hD comeV_bad
 have HJN:Hid (P[n].here=true→fitsV P[n].s s=true→comeV P[n] s={ P[n] with s:=joinV P[n].s s }):=hD zn19
 have h21:=plA_at hP hn (j:=21) (by decide)
 rw [zr3 hpn] at h21
 have h21s:(plA (P.set n { P[n] with s:=s }))[n * 23+21]?=some (.bool P[n].here):=by
  rw [plA_at (hP.set hs) (by rw [List.length_set];exact hn) (by decide)]
  simp only [List.getElem_set_self]
  exact zr3 hs
 have h22:=plA_at hP hn (j:=22) (by decide)
 rw [zv5 hpn] at h22
 have HTH:Hid (∀ (W:World) (A:Array Value),A.size=P.length * 23→Box W g 133 A→W.there g (n * 23) 21):=hD (fun W A hA hb j hj=>⟨by rw [hb.cell,Array.getElem?_eq_getElem (by rw [hA];omega)];rfl,hb.frozen _⟩)
 have hz:=zq3 hP
 have HZ:=hD hz
 have i0:(0:Int)≤(n:Int):=by omega
 have i1:(n:Int)<(P.length:Int):=by omega
 clear h hP hs hpn hz
 generalize stA (joinV P[n].s s)=J at HSJ H1J HWI HP4
 generalize hst:stA s=B at HB HX HA c4 HSB H1B HP1 HFI HWI ⊢
 clear hst
 rw [hgx] at HX
 by_cases hh:P[n].here=true
 case neg=>
  have hh':P[n].here=false:=by simpa using hh
  have HR:=hD (HNEW.out hh')
  rw [hh'] at h21
  rw [hh'] at h21s
  clear hh hh' HNEW HBAD HJN HFI HWI
  go_enter Tryz.func53,Tryz.ntmps53
  go_upto_region 1 with(fail)
  obtain⟨w1,hw1⟩:∃ w1,w.alloc (.cells B 58)=w1:=⟨_,rfl⟩
  rw [hw1] at HB HX HA c4 ⊢
  clear hw1
  have HT1:=hD (HTH.out w1 _ HZ.out HA.out)
  have HP4:=hD (HA.out.setCells B.toList w1 (plA P) (n * 23))
  rw [HP1.out] at HP4
  have c21:=HA.out.cell (n * 23+21)
  rw [h21] at c21
  have d21:=HP4.out.cell (n * 23+21)
  have z21:=HP4.out.frozen (n * 23+21)
  rw [h21s] at d21
  have HP5:=hD (HP4.out.set_ (n * 23+21) (.bool true))
  rw [HP2.out] at HP5
  have HFR:=hD ((Fr.setCells (g:=g) B.toList w w1 (n * 23) (Fr.of_below (S:=fun k=>k=g) HB.out) (.inl rfl)).setCell (p:=⟨g,n * 23+21,none⟩) (.inl rfl) (.bool true))
  go_upto_region 3 with(fail)
  go_wp2_with (first | (refine zf rfl (.tmp 5) rfl gx rfl B HX.out HSB.out ?_) | (refine zd6 rfl (.tmp 22) (.tmp 20) rfl g (n * 23) B rfl rfl HT1.out HSB.out H1B.out ?_))
  exact bodyPost_ret (results_none rfl _ _ _) rfl ⟨rfl,HFR.out,by rw [HBR.out,HR.out];exact HP5.out⟩
 case pos=>
  rw [hh] at h21
  go_enter Tryz.func53,Tryz.ntmps53
  go_upto_region 1 with(fail)
  obtain⟨w1,hw1⟩:∃ w1,w.alloc (.cells B 58)=w1:=⟨_,rfl⟩
  rw [hw1] at HB HX HA c4 ⊢
  clear hw1
  have HF1:Hid (Fr (fun k=>k=g) w w1):=hD (Fr.of_below HB.out)
  have d21:=HA.out.cell (n * 23+21)
  have d22:=HA.out.cell (n * 23+22)
  have z22:=HA.out.frozen (n * 23+22)
  rw [h21] at d21
  rw [h22] at d22
  have HRA:=hD (zu4 HA.out HPO.out hn)
  have HRB:=hD (zc2 HX.out)
  generalize hsa:stA P[n].s=A at HSA HFI HWI HRA
  have HPN:=hD hsa
  clear hsa
  by_cases hf:fitsV P[n].s s=true
  ·have HR:=hD (HJN.out hh hf)
   rw [hf] at HFI
   have HRA3:=HRA
   have HRB3:=HRB
   have HA3:=HA
   have HX3:=HX
   have HB3:=HB
   clear hf HNEW HBAD HJN
   go_upto_region 4 with(fail)
   refine wp_region_noPanic ?_
   refine zt 7 (fun w'=>w'.rangeAt g (n * 23) A.toList∧w'.rangeAt gx 0 B.toList) (by kernel_rfl) ?_ (fun hHeld=>?_)
   ·exact⟨(World.rangeAt_drew _ _ _ _).2 HRA.out,(World.rangeAt_drew _ _ _ _).2 HRB.out⟩
   have HA2:=hD (HA.out.drew)
   have HX2:=hD (HX.out.drew)
   have HB2:=hD (bel_dn HB.out 1)
   replace hHeld:w1.drew.rangeAt g (n * 23) A.toList∧w1.drew.rangeAt gx 0 B.toList:=hHeld
   change wpAnyT _ _ _ _ _ _ _ _ _ w1.drew
   change Hid (Below w.heap.size w w1.drew) at HB2
   generalize w1.drew=w2 at HA2 HX2 HB2 hHeld ⊢
   have st:Stp [0,1,2]:=trivial
   iterate 3
    refine tPL st (v:=?_) rfl ?_ ?_
    rotate_left
    ·(intro w hSw;(try dsimp only at hSw);go_simp;try with_reducible rfl)
    replace st:=st.tl
    try simp only [qA,qB,qC,Act.put,qD,qE,qF]
   refine tkS (i:=3) (v:=.agg A) rfl (fun _ _ _ h=>h) (zs1 (by kernel_rfl) (.tmp 27) rfl g (n * 23) rfl A HSA.out (fun w hSw=>hSw.1)) hHeld ?_
   try simp only [qA,qB,qC,Act.put,qD,qE,qF]
   refine tkS (i:=4) (v:=.agg B) rfl (fun _ _ _ h=>h) (zs1 (by kernel_rfl) (.tmp 5) rfl gx (0) rfl B HSB.out (fun w hSw=>hSw.2)) hHeld ?_
   try simp only [qA,qB,qC,Act.put,qD,qE,qF]
   refine wT1 (i:=5) (by kernel_rfl) rfl fun K hK=>?_
   go_simp
   go_at_call 93;refine(HFI.out w2).mono ?_;rintro e1 w3 ⟨rfl,hb3⟩
   have HA3:=hD (HA2.out.below hb3 HA2.out.lt)
   have HX3:=hD (HX2.out.below hb3 HX2.out.lt)
   have HB3:=hD (HB2.out.trans (hb3.mono HB2.out.size))
   clear hb3 HRA3 HRB3
   refine hK.out _ _ (fun _=>?_) (fun hHeld2=>?_)
   ·exact⟨(by rw [← HPN.out];exact zu4 HA3.out HPO.out hn),zc2 HX3.out⟩
   replace hHeld:=hHeld2 (by decide)
   clear hHeld2 hK K
   try simp only [qA,qB,qC,Act.put,qD,qE,qF]
   refine tP (i:=6) (v:=?_) rfl ?_ ?_
   rotate_left
   ·(intro w hSw;(try dsimp only at hSw);go_simp;try with_reducible rfl)
   try simp only [qA,qB,qC,Act.put,qD,qE,qF]
   refine zn (by kernel_rfl) (NoPanic.normal ?_) _
   have HRA3:Hid (w3.rangeAt g (n * 23) A.toList):=hD (by rw [← HPN.out];exact zu4 HA3.out HPO.out hn)
   have HRB3:=hD (zc2 HX3.out)
   go_upto_region 6 with(fail)
   refine wp_region_noPanic ?_
   refine zt 9 (fun w'=>w'.rangeAt g (n * 23) A.toList∧w'.rangeAt gx 0 B.toList) (by kernel_rfl) ?_ (fun hHeld=>?_)
   ·exact⟨(World.rangeAt_drew _ _ _ _).2 HRA3.out,(World.rangeAt_drew _ _ _ _).2 HRB3.out⟩
   have HA4:=hD (HA3.out.drew)
   have HX4:=hD (HX3.out.drew)
   have HB4:=hD (bel_dn HB3.out 1)
   replace hHeld:w3.drew.rangeAt g (n * 23) A.toList∧w3.drew.rangeAt gx 0 B.toList:=hHeld
   change wpAnyT _ _ _ _ _ _ _ _ _ w3.drew
   change Hid (Below w.heap.size w w3.drew) at HB4
   generalize w3.drew=w4 at HA4 HX4 HB4 hHeld ⊢
   have st:Stp [0,1,2,3]:=trivial
   iterate 4
    refine tPL st (v:=?_) rfl ?_ ?_
    rotate_left
    ·(intro w hSw;(try dsimp only at hSw);go_simp;try with_reducible rfl)
    replace st:=st.tl
    try simp only [qA,qB,qC,Act.put,qD,qE,qF]
   refine tkS (i:=4) (v:=.agg A) rfl (fun _ _ _ h=>h) (zs1 (by kernel_rfl) (.tmp 38) rfl g (n * 23) rfl A HSA.out (fun w hSw=>hSw.1)) hHeld ?_
   try simp only [qA,qB,qC,Act.put,qD,qE,qF]
   refine tkS (i:=5) (v:=.agg B) rfl (fun _ _ _ h=>h) (zs1 (by kernel_rfl) (.tmp 5) rfl gx (0) rfl B HSB.out (fun w hSw=>hSw.2)) hHeld ?_
   try simp only [qA,qB,qC,Act.put,qD,qE,qF]
   refine wT1 (i:=6) (by kernel_rfl) rfl fun K hK=>?_
   go_simp
   go_at_call 94;refine(HWI.out w4).mono ?_;rintro e1 w5 ⟨rfl,hb3⟩
   have HA5:=hD (HA4.out.below hb3 HA4.out.lt)
   have HX5:=hD (HX4.out.below hb3 HX4.out.lt)
   have HB5:=hD (HB4.out.trans (hb3.mono HB4.out.size))
   clear hb3
   refine hK.out _ _ (fun _=>?_) (fun hHeld2=>?_)
   ·exact⟨(by rw [← HPN.out];exact zu4 HA5.out HPO.out hn),zc2 HX5.out⟩
   replace hHeld:=hHeld2 (by decide)
   clear hHeld2 hK K
   try simp only [qA,qB,qC,Act.put,qD,qE,qF]
   have st:Stp [7,8]:=trivial
   iterate 2
    refine tPL st (v:=?_) rfl ?_ ?_
    rotate_left
    ·(intro w hSw;(try dsimp only at hSw);go_simp;try with_reducible rfl)
    replace st:=st.tl
    try simp only [qA,qB,qC,Act.put,qD,qE,qF]
   refine wT1 (i:=9) (by kernel_rfl) rfl fun K hK=>?_
   rw [if_pos (by kernel_rfl)]
   refine wp_store_mid 58 (.tmp 43) (.tmp 41) rfl g (n * 23) J rfl rfl (by rw [HSJ.out];exact plA_there HA5.out HPO.out hn) (by rw [HSJ.out];exact zp3) H1J.out ?_
   refine hK.out _ _ (fun h=>absurd h (by decide)) (fun _=>?_)
   clear hK K
   try simp only [qA,qB,qC,Act.put,qD,qE,qF]
   refine zn (by kernel_rfl) (NoPanic.normal ?_) _
   go_wp2
   have HP5:=hD (HA5.out.setCells J.toList w5 (plA P) (n * 23))
   rw [HP4.out] at HP5
   exact bodyPost_end (results_none rfl _ _ _) rfl ⟨rfl,Fr.setCells (g:=g) J.toList w w5 (n * 23) (Fr.of_below (S:=fun k=>k=g) HB5.out) (.inl rfl),by rw [HBR.out,HR.out];exact HP5.out⟩
  ·have hf':fitsV P[n].s s=false:=by simpa using hf
   have HR:=hD (HBAD.out hh hf')
   rw [hf'] at HFI
   clear hf hf' HNEW HBAD HJN HWI
   go_upto_region 4 with(fail)
   refine wp_region_noPanic ?_
   refine zt 7 (fun w'=>w'.rangeAt g (n * 23) A.toList∧w'.rangeAt gx 0 B.toList) (by kernel_rfl) ?_ (fun hHeld=>?_)
   ·exact⟨(World.rangeAt_drew _ _ _ _).2 HRA.out,(World.rangeAt_drew _ _ _ _).2 HRB.out⟩
   have HA2:=hD (HA.out.drew)
   have HX2:=hD (HX.out.drew)
   have HB2:=hD (bel_dn HB.out 1)
   replace hHeld:w1.drew.rangeAt g (n * 23) A.toList∧w1.drew.rangeAt gx 0 B.toList:=hHeld
   change wpAnyT _ _ _ _ _ _ _ _ _ w1.drew
   change Hid (Below w.heap.size w w1.drew) at HB2
   generalize w1.drew=w2 at HA2 HX2 HB2 hHeld ⊢
   have st:Stp [0,1,2]:=trivial
   iterate 3
    refine tPL st (v:=?_) rfl ?_ ?_
    rotate_left
    ·(intro w hSw;(try dsimp only at hSw);go_simp;try with_reducible rfl)
    replace st:=st.tl
    try simp only [qA,qB,qC,Act.put,qD,qE,qF]
   refine tkS (i:=3) (v:=.agg A) rfl (fun _ _ _ h=>h) (zs1 (by kernel_rfl) (.tmp 27) rfl g (n * 23) rfl A HSA.out (fun w hSw=>hSw.1)) hHeld ?_
   try simp only [qA,qB,qC,Act.put,qD,qE,qF]
   refine tkS (i:=4) (v:=.agg B) rfl (fun _ _ _ h=>h) (zs1 (by kernel_rfl) (.tmp 5) rfl gx (0) rfl B HSB.out (fun w hSw=>hSw.2)) hHeld ?_
   try simp only [qA,qB,qC,Act.put,qD,qE,qF]
   refine wT1 (i:=5) (by kernel_rfl) rfl fun K hK=>?_
   go_simp
   go_at_call 93;refine(HFI.out w2).mono ?_;rintro e1 w3 ⟨rfl,hb3⟩
   have HA3:=hD (HA2.out.below hb3 HA2.out.lt)
   have HX3:=hD (HX2.out.below hb3 HX2.out.lt)
   have HB3:=hD (HB2.out.trans (hb3.mono HB2.out.size))
   clear hb3
   refine hK.out _ _ (fun _=>?_) (fun hHeld2=>?_)
   ·exact⟨(by rw [← HPN.out];exact zu4 HA3.out HPO.out hn),zc2 HX3.out⟩
   replace hHeld:=hHeld2 (by decide)
   clear hHeld2 hK K
   try simp only [qA,qB,qC,Act.put,qD,qE,qF]
   refine tP (i:=6) (v:=?_) rfl ?_ ?_
   rotate_left
   ·(intro w hSw;(try dsimp only at hSw);go_simp;try with_reducible rfl)
   try simp only [qA,qB,qC,Act.put,qD,qE,qF]
   refine zn (by kernel_rfl) (NoPanic.normal ?_) _
   have e22:=HA3.out.cell (n * 23+22)
   have y22:=HA3.out.frozen (n * 23+22)
   rw [h22] at e22
   have HP5:=hD (HA3.out.set_ (n * 23+22) (.bool true))
   rw [HP3.out] at HP5
   have HFR:=hD ((Fr.of_below (S:=fun k=>k=g) HB3.out).setCell (p:=⟨g,n * 23+22,none⟩) (.inl rfl) (.bool true))
   go_wp2
   exact bodyPost_ret (results_none rfl _ _ _) rfl ⟨rfl,HFR.out,by rw [HBR.out,HR.out];exact HP5.out⟩
end Go.Proofs.YtlmbiafloiompaaGreatDoor
