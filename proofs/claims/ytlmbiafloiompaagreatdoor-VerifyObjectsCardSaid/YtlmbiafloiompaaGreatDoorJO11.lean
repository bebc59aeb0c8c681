/-
 The document's come (layer 11): a State comes to a place;by contract. Conditions: States of zm1 places.
-/
import Derived.Test.YtlmbiafloiompaaGreatDoorJO10
set_option linter.unusedVariables false
set_option linter.unusedSimpArgs false
namespace Go.Proofs.YtlmbiafloiompaaGreatDoor
open Go Go.RowKit
set_option maxRecDepth 4000
theorem zr8 {P:Program} {ops:Array Oper} {rest:List Oper} {o:Oper} {a:Act} {w:World} {Q:Exit→Act→World→Prop} {t:TypeId} {parts:Array (Nat × Value)} {v':Value} {w':World}
  (hr:(Instr.build t parts).run P w=.ok v' w') (hgd:o.guard=none) (ps:Array (Nat × Operand)) (ho:o.op=.build t ps) (hp:(ps.map fun(i,x)=>(i,a.eval x))=parts)
  (h:wpList P ops Q rest (a.put o.dst v') w'):wpList P ops Q (o :: rest) a w:=by
 refine wpList_plain hgd fun K hK=>?_
 subst hp
 unfold Oper.wp execOp
 simp only [ho,Sem.run_bind,Sem.run_pure,Result.andThen_ok,hr]
 exact hK _ _ h
theorem zk15 {s:VSt} (h:StOk s) (b:Bool) (w:World):(Instr.build 97 #[(0,.bool true),(2,.agg (stA s)),(1,.bool b)]).run Tryz.prog w=.ok (.agg (pdC ⟨true,b,s⟩).toArray) w:=by
 obtain⟨x,env,y,left,alt,neck⟩:=s
 obtain⟨y0,y1,y2,y3,y4,y5,y6,y7,y8,y9,y10,y11,y12,y13,y14,y15,rfl⟩:=zm1 y h.y
 exact run_build w _ _ _ (by kernel_rfl)
theorem zw16 (h b:Bool) {s s':VSt} {j:Nat} {v:Value} (e:stA s'=(stA s).setIfInBounds j v):(pdC ⟨h,b,s'⟩).toArray=(pdC ⟨h,b,s⟩).toArray.setIfInBounds (2+j) v:=by
 have h1:(stA s').toList=(stA s).toList.set j v:=by rw [e];simp
 unfold pdC
 simp only
 rw [h1,List.setIfInBounds_toArray,Nat.add_comm]
 rfl
theorem zb10 (h b c:Bool) (s:VSt):(pdC ⟨h,c,s⟩).toArray=(pdC ⟨h,b,s⟩).toArray.setIfInBounds 1 (.bool c):=by
 unfold pdC
 rw [List.setIfInBounds_toArray]
 rfl
theorem pdC_at (p:VPl) (j:Nat):(pdC p).toArray[2+j]?=(stA p.s)[j]?:=by
 rw [List.getElem?_toArray]
 exact pdC_s p j
def zeroD:Array Value:=#[.bool false,.bool false,.int .u32 0,.int .i64 0,.int .i64 0,.int .i64 0,.int .i64 0,.int .i64 0,.int .i64 0,.int .i64 0,.int .i64 0,.int .i64 0,.int .i64 0,.int .i64 0,.int .i64 0,.int .i64 0,.int .i64 0,.int .i64 0,.int .i64 0,.int .i64 0,.int .i64 0,.bool false,.bool false]
theorem zw4 (w:World) (A B C:Array Value) (t u v:TypeId):Box (((w.alloc (.cells A t)).alloc (.cells B u)).alloc (.cells C v)) w.heap.size t A∧Box (((w.alloc (.cells A t)).alloc (.cells B u)).alloc (.cells C v)) (w.heap.size+1) u B∧Box (((w.alloc (.cells A t)).alloc (.cells B u)).alloc (.cells C v)) (w.heap.size+2) v C∧Below w.heap.size w (((w.alloc (.cells A t)).alloc (.cells B u)).alloc (.cells C v)):=by
 have h1:=za w (.cells A t)
 have h2:=za (w.alloc (.cells A t)) (.cells B u)
 have h3:=za ((w.alloc (.cells A t)).alloc (.cells B u)) (.cells C v)
 have e1:(w.alloc (.cells A t)).heap.size=w.heap.size+1:=by simp
 have e:((w.alloc (.cells A t)).alloc (.cells B u)).heap.size=w.heap.size+2:=by simp
 have b2:=Box.new (w.alloc (.cells A t)) u B
 have b3:=Box.new ((w.alloc (.cells A t)).alloc (.cells B u)) v C
 rw [e1] at b2
 rw [e] at b3
 exact⟨((Box.new w t A).alloc _).alloc _,b2.alloc _,b3,h1.trans ((h2.trans (h3.mono h2.size)).mono h1.size)⟩
set_option maxHeartbeats 8000000 in
theorem zg10 {p:VPl} {s:VSt} (hp:StOk p.s) (hs:StOk s) (w:World) :
  Calls Tryz.prog 34 #[.agg (pdC p).toArray,.agg (stA s)] w fun e w'=>e=.returned (.agg (pdC (comeV p s)).toArray)∧Below w.heap.size w w':=by
 obtain⟨X1,X2,X3,hb⟩:=zw4 w (pdC p).toArray (stA s) zeroD 97 95 97
 have HB:=hD hb
 have HX:=hD X1
 have HY:=hD X2
 have HZ:=hD X3
 clear hb X1 X2 X3
 have HZE:Hid (zeroD=#[.bool false,.bool false,.int .u32 0,.int .i64 0,.int .i64 0,.int .i64 0,.int .i64 0,.int .i64 0,.int .i64 0,.int .i64 0,.int .i64 0,.int .i64 0,.int .i64 0,.int .i64 0,.int .i64 0,.int .i64 0,.int .i64 0,.int .i64 0,.int .i64 0,.int .i64 0,.int .i64 0,.bool false,.bool false]):=hD rfl
 have HZS:Hid (zeroD.size=23):=hD rfl
 generalize zeroD=O at HB HX HY HZ HZE HZS
 obtain⟨ph,pb,ps⟩:=p
 simp only at hp
 cases ph with
 | false=>
  have HR:Hid ((pdC (comeV ⟨false,pb,ps⟩ s)).toArray=(pdC ⟨true,pb,s⟩).toArray):=hD rfl
  have HBU:=hD (fun w=>zk15 hs pb w)
  have HSB:=hD (zh hs)
  have hl:(pdC ⟨true,pb,s⟩).toArray.size=23:=by rw [List.size_toArray];exact za2 (p:=⟨true,pb,s⟩) hs
  have HSC:=hD hl
  have HC1:=hD (zt4 ⟨true,pb,s⟩)
  clear hl
  have x0:=HX.out.cell 0
  have x1:=HX.out.cell 1
  rw [List.getElem?_toArray,zx8] at x0
  rw [List.getElem?_toArray,zv16] at x1
  generalize (pdC (comeV ⟨false,pb,ps⟩ s)).toArray=R at HR ⊢
  generalize (pdC ⟨true,pb,s⟩).toArray=C at HR HBU HSC HC1
  generalize (pdC ⟨false,pb,ps⟩).toArray=A at HB HX HY HZ x0 x1 ⊢
  generalize stA s=B at HB HX HY HZ HBU HSB x0 x1 ⊢
  clear hp hs
  go_enter Tryz.func34,Tryz.ntmps34
  go_upto_region 1 with(fail)
  rw [← HZE.out]
  obtain⟨w1,hw1⟩:∃ w1,((w.alloc (.cells A 97)).alloc (.cells B 95)).alloc (.cells O 97)=w1:=⟨_,rfl⟩
  obtain⟨g,hg⟩:∃ g,w.heap.size=g:=⟨_,rfl⟩
  rw [hw1] at HB HX HY HZ x0 x1 ⊢
  rw [hg] at HB HX HY HZ x0 x1 ⊢
  clear hw1 HZE
  go_wp2_with (first | (refine zu zb2 zg1 (by rfl) (.tmp 3) rfl (g+1) 0 rfl B (zj HY.out) HSB.out ?_) | (refine zr8 (HBU.out _) rfl _ rfl (by kernel_rfl) ?_) | (refine ze zf1 rfl (.tmp 4) (.tmp 12) rfl (g+2) 0 C rfl rfl (zr HZ.out (by rw [HZS.out];decide)) HSC.out HC1.out ?_))
  exact bodyPost_ret (zr1 zq2 zf1 rfl _ _ (g+2) C rfl (zw HZ.out (HSC.out.trans HZS.out.symm)) HSC.out) rfl ⟨by rw [HR.out],by first | exact zg C.toList _ _ 0 HB.out (by omega) | (rw [hg];exact zg C.toList _ _ 0 HB.out (by omega))⟩
 | true=>
 by_cases hf:fitsV ps s=true
 case neg=>
  have hff:fitsV ps s=false:=by simpa using hf
  have HR:Hid ((pdC (comeV ⟨true,pb,ps⟩ s)).toArray=(pdC ⟨true,pb,ps⟩).toArray.setIfInBounds 1 (.bool true)):=hD (by
   rw [← zb10 true pb true ps]
   unfold comeV
   rw [if_neg (by simp),if_pos hff])
  have HF:Hid ((decide (ps.env=s.env) && decide (ps.left=s.left) && decide (ps.alt=s.alt))=false):=hD hff
  have hl:((pdC ⟨true,pb,ps⟩).toArray.setIfInBounds 1 (.bool true)).size=23:=by rw [Array.size_setIfInBounds,List.size_toArray];exact za2 (p:=⟨true,pb,ps⟩) hp
  have HSC:=hD hl
  have HC1:Hid (((pdC ⟨true,pb,ps⟩).toArray.setIfInBounds 1 (.bool true)).all (·.oneCell')=true):=hD (by rw [← zb10 true pb true ps];exact zt4 _)
  have x0:=HX.out.cell 0
  have x1:=HX.out.cell 1
  have z1:=HX.out.frozen 1
  have x3:=HX.out.cell (2+1)
  have x20:=HX.out.cell (2+18)
  have x21:=HX.out.cell (2+19)
  have y1:=HY.out.cell 1
  have y18:=HY.out.cell 18
  have y19:=HY.out.cell 19
  rw [List.getElem?_toArray,zx8] at x0
  rw [List.getElem?_toArray,zv16] at x1
  rw [pdC_at,zs2] at x3
  rw [pdC_at,zh1 hp] at x20
  rw [pdC_at,ze3 hp] at x21
  rw [zs2] at y1
  rw [zh1 hs] at y18
  rw [ze3 hs] at y19
  have HX2:=hD (HX.out.set_ 1 (.bool true))
  have HZ2:=hD (HZ.out.far (p:=⟨w.heap.size,1,none⟩) (by simp) (.bool true))
  have HB2:=hD (HB.out.setCell (p:=⟨w.heap.size,1,none⟩) (Nat.le_refl _) (.bool true))
  clear hl hf hff HY HX HZ
  generalize (pdC (comeV ⟨true,pb,ps⟩ s)).toArray=R at HR ⊢
  generalize hC:(pdC ⟨true,pb,ps⟩).toArray.setIfInBounds 1 (.bool true)=C at HR HSC HC1 HX2
  clear hC
  simp only at x3 x20 x21
  generalize (pdC ⟨true,pb,ps⟩).toArray=A at HB HX2 HZ2 HB2 x0 x1 x3 x20 x21 y1 y18 y19 z1 ⊢
  generalize stA s=B at HB HX2 HZ2 HB2 x0 x1 x3 x20 x21 y1 y18 y19 z1 ⊢
  generalize ps.env=e1 at x3 HF
  generalize ps.left=l1 at x20 HF
  generalize ps.alt=a1 at x21 HF
  generalize s.env=e2 at y1 HF
  generalize s.left=l2 at y18 HF
  generalize s.alt=a2 at y19 HF
  go_enter Tryz.func34,Tryz.ntmps34
  go_upto_region 1 with(fail)
  rw [← HZE.out]
  obtain⟨w1,hw1⟩:∃ w1,((w.alloc (.cells A 97)).alloc (.cells B 95)).alloc (.cells O 97)=w1:=⟨_,rfl⟩
  obtain⟨g,hg⟩:∃ g,w.heap.size=g:=⟨_,rfl⟩
  rw [hw1] at HB HX2 HZ2 HB2 x0 x1 x3 x20 x21 y1 y18 y19 z1 ⊢
  rw [hg] at HB HX2 HZ2 HB2 x0 x1 x3 x20 x21 y1 y18 y19 z1 ⊢
  clear hw1 HZE
  have HEND:Hid (∀ W,W=(w1.setCell ⟨g,1,none⟩ (.bool true)).setCells (g+2) 0 C.toList→Box W (g+2) 97 C∧Below g w W):=hD (fun W hW=>by subst hW;exact⟨zw HZ2.out (HSC.out.trans HZS.out.symm),zg C.toList _ _ 0 HB2.out (by omega)⟩)
  by_cases h1:e1=e2
  ·by_cases h2:l1=l2
   ·by_cases h3:a1=a2
    ·exfalso
     have:=HF.out
     rw [decide_eq_true h1,decide_eq_true h2,decide_eq_true h3] at this
     cases this
    ·subst h1 h2
     cases a1 <;> cases a2
     all_goals try exact absurd rfl h3
     all_goals clear h3
     all_goals go_wp2_with (first | (refine zu zq2 zf1 (by rfl) (.tmp 2) rfl g 0 rfl C (zj HX2.out) HSC.out ?_) | (refine ze zf1 rfl (.tmp 4) (.tmp 36) rfl (g+2) 0 C rfl rfl (zr HZ2.out (by rw [HZS.out];decide)) HSC.out HC1.out ?_))
     all_goals exact bodyPost_ret (zr1 zq2 zf1 rfl _ _ (g+2) C rfl (HEND.out _ rfl).1 HSC.out) rfl ⟨by rw [HR.out],by first | exact(HEND.out _ rfl).2 | (rw [hg];exact(HEND.out _ rfl).2)⟩
   ·have h2':(l1 != l2)=true:=bne_iff_ne.2 h2
    subst h1
    go_wp2_with (first | (refine zu zq2 zf1 (by rfl) (.tmp 2) rfl g 0 rfl C (zj HX2.out) HSC.out ?_) | (refine ze zf1 rfl (.tmp 4) (.tmp 36) rfl (g+2) 0 C rfl rfl (zr HZ2.out (by rw [HZS.out];decide)) HSC.out HC1.out ?_))
    exact bodyPost_ret (zr1 zq2 zf1 rfl _ _ (g+2) C rfl (HEND.out _ rfl).1 HSC.out) rfl ⟨by rw [HR.out],by first | exact(HEND.out _ rfl).2 | (rw [hg];exact(HEND.out _ rfl).2)⟩
  ·have h1':(e1 != e2)=true:=bne_iff_ne.2 h1
   go_wp2_with (first | (refine zu zq2 zf1 (by rfl) (.tmp 2) rfl g 0 rfl C (zj HX2.out) HSC.out ?_) | (refine ze zf1 rfl (.tmp 4) (.tmp 36) rfl (g+2) 0 C rfl rfl (zr HZ2.out (by rw [HZS.out];decide)) HSC.out HC1.out ?_))
   exact bodyPost_ret (zr1 zq2 zf1 rfl _ _ (g+2) C rfl (HEND.out _ rfl).1 HSC.out) rfl ⟨by rw [HR.out],by first | exact(HEND.out _ rfl).2 | (rw [hg];exact(HEND.out _ rfl).2)⟩
 case pos=>
  have hfit:ps.env=s.env∧ps.left=s.left∧ps.alt=s.alt:=by
   have h1:=hf
   unfold fitsV at h1
   simpa [and_assoc] using h1
  obtain⟨f1,f2,f3⟩:=hfit
  obtain⟨C,hC⟩:∃ C:Nat→Array Value,∀ k,C k=(pdC ⟨true,pb,joinK ps s k⟩).toArray:=⟨fun k=>_,fun _=>rfl⟩
  obtain⟨Y,hY⟩:∃ Y:Nat→Int,∀ k:Nat,Y k=yAt ps (k:Int):=⟨fun k=>_,fun _=>rfl⟩
  obtain⟨Z,hZ⟩:∃ Z:Nat→Int,∀ k:Nat,Z k=yAt s (k:Int):=⟨fun k=>_,fun _=>rfl⟩
  have HBO:=hD (fun w=>zh15 ps.x s.x hp.x hs.x w)
  have HC0:Hid (C 0=((pdC ⟨true,pb,ps⟩).toArray.setIfInBounds 2 (.int .u32 ((ps.x &&& s.x:Nat):Int))).setIfInBounds 22 (.bool (ps.neck && s.neck))):=hD (by
   rw [hC,zp11,zw16 true pb (zo3 (s:={ ps with x:=ps.x &&& s.x }) ⟨hp.y,Nat.lt_of_le_of_lt Nat.and_le_left hp.x⟩ (ps.neck && s.neck)),zw16 true pb (zy18 ps (ps.x &&& s.x))])
  have HCY:Hid (∀ k,k<16→(C k)[4+k]?=some (.int .i64 (Y k))):=hD (fun k hk=>by
   rw [hC,hY,show 4+k=2+(2+k) by omega,pdC_at]
   show(stA (joinK ps s k))[2+k]?=_
   rw [stA_y (zg5 hp hs k) k hk]
   unfold yAt
   rw [Int.toNat_natCast]
   have:=za13 ps.y s.y (hp.y.trans hs.y.symm) k (by rw [hp.y];exact hk)
   show some (Value.int .i64 ((mixTo ps.y s.y k).getD k 0))=_
   rw [this])
  have HTY:Hid (∀ k,k<16→(stA s)[2+k]?=some (.int .i64 (Z k))):=hD (fun k hk=>by rw [hZ];exact stA_y hs k hk)
  have HNE:Hid (∀ k,k<16→Y k≠Z k→C (k+1)=(C k).setIfInBounds (4+k) (.int .i64 3)):=hD (fun k hk hne=>by
   rw [hC,hC,show 4+k=2+(2+k) by omega]
   refine zw16 true pb ?_
   rw [← za9 (zg5 hp hs k) k hk 3]
   congr 1
   unfold joinK
   have e:=zn7 ps.y s.y (hp.y.trans hs.y.symm) k (by rw [hp.y];exact hk)
   have hm:mixY (ps.y.getD k 0) (s.y.getD k 0)=3:=by
    unfold mixY
    rw [hY,hZ] at hne
    unfold yAt at hne
    rw [Int.toNat_natCast] at hne
    rw [if_neg hne]
   rw [hm] at e
   rw [e])
  have HEQ:Hid (∀ k,k<16→Y k=Z k→C (k+1)=C k):=hD (fun k hk he=>by
   rw [hC,hC]
   unfold joinK
   rw [hY,hZ] at he
   unfold yAt at he
   rw [Int.toNat_natCast] at he
   rw [zt11 ps.y s.y (hp.y.trans hs.y.symm) k (by rw [hp.y];exact hk) he])
  have HALL:Hid ((pdC (comeV ⟨true,pb,ps⟩ s)).toArray=C 16):=hD (by
   rw [hC,zs14 hp hs]
   unfold comeV
   rw [if_neg (by simp),if_neg (by simp only;rw [hf];decide)])
  have HSZ:Hid (∀ k,(C k).size=23):=hD (fun k=>by rw [hC,List.size_toArray];exact za2 (p:=⟨true,pb,joinK ps s k⟩) (zg5 hp hs k))
  have H1:Hid (∀ k,(C k).all (·.oneCell')=true):=hD (fun k=>by rw [hC];exact zt4 _)
  have x0:=HX.out.cell 0
  have x2:=HX.out.cell (2+0)
  have x3:=HX.out.cell (2+1)
  have x20:=HX.out.cell (2+18)
  have x21:=HX.out.cell (2+19)
  have x22:=HX.out.cell (2+20)
  have z2:=HX.out.frozen 2
  have z22:=HX.out.frozen 22
  have y0:=HY.out.cell 0
  have y1:=HY.out.cell 1
  have y18:=HY.out.cell 18
  have y19:=HY.out.cell 19
  have y20:=HY.out.cell 20
  rw [List.getElem?_toArray,zx8] at x0
  rw [pdC_at,stA_x] at x2
  rw [pdC_at,zs2] at x3
  rw [pdC_at,zh1 hp] at x20
  rw [pdC_at,ze3 hp] at x21
  rw [pdC_at,zy2 hp] at x22
  rw [stA_x] at y0
  rw [zs2] at y1
  rw [zh1 hs] at y18
  rw [ze3 hs] at y19
  rw [zy2 hs] at y20
  simp only at x2 x3 x20 x21 x22
  rw [f1] at x3
  rw [f2] at x20
  rw [f3] at x21
  clear hC hY hZ hf f1 f2 f3
  generalize (pdC (comeV ⟨true,pb,ps⟩ s)).toArray=R at HALL ⊢
  generalize (pdC ⟨true,pb,ps⟩).toArray=A at HB HX HY HZ HC0 x0 x2 x3 x20 x21 x22 y0 y1 y18 y19 y20 z2 z22 ⊢
  generalize stA s=B at HB HX HY HZ HTY x0 x2 x3 x20 x21 x22 y0 y1 y18 y19 y20 z2 z22 ⊢
  generalize ps.x &&& s.x=xx at HC0 HBO
  generalize ps.x=sx at HBO x2
  generalize s.x=tx at HBO y0
  generalize ps.neck=sn at HC0 x22
  generalize s.neck=tn at HC0 y20
  generalize s.env=en at x3 y1
  generalize s.left=lf at x20 y18
  generalize s.alt=al at x21 y19
  clear hp hs
  obtain⟨nb,hnb⟩:∃ nb,(sn && tn)=nb:=⟨_,rfl⟩
  rw [hnb] at HC0
  have HX2:=hD ((HX.out.set_ 2 (.int .u32 (xx:Int))).set_ 22 (.bool nb))
  rw [← HC0.out] at HX2
  have HY2:=hD ((HY.out.far (p:=⟨w.heap.size,2,none⟩) (by simp) (.int .u32 (xx:Int))).far (p:=⟨w.heap.size,22,none⟩) (by simp) (.bool nb))
  have HZ2:=hD ((HZ.out.far (p:=⟨w.heap.size,2,none⟩) (by simp) (.int .u32 (xx:Int))).far (p:=⟨w.heap.size,22,none⟩) (by simp) (.bool nb))
  have HB2:=hD ((HB.out.setCell (p:=⟨w.heap.size,2,none⟩) (Nat.le_refl _) (.int .u32 (xx:Int))).setCell (p:=⟨w.heap.size,22,none⟩) (Nat.le_refl _) (.bool nb))
  clear HC0 HX HY HZ HB
  go_enter Tryz.func34,Tryz.ntmps34
  go_upto_region 1 with(fail)
  rw [← HZE.out]
  obtain⟨w1,hw1⟩:∃ w1,((w.alloc (.cells A 97)).alloc (.cells B 95)).alloc (.cells O 97)=w1:=⟨_,rfl⟩
  obtain⟨g,hg⟩:∃ g,w.heap.size=g:=⟨_,rfl⟩
  rw [hw1] at HB2 HX2 HY2 HZ2 x0 x2 x3 x20 x21 x22 y0 y1 y18 y19 y20 z2 z22 ⊢
  rw [hg] at HB2 HX2 HY2 HZ2 x0 x2 x3 x20 x21 x22 y0 y1 y18 y19 y20 z2 z22 ⊢
  clear hw1 HZE
  rcases Bool.eq_false_or_eq_true sn with hsn | hsn
  all_goals
   subst hsn
   try (obtain rfl:tn=nb:=hnb)
   try (obtain rfl:false=nb:=hnb)
   go_upto_region 8 with(go_at_call 71;refine(HBO.out _).mono ?_;rintro e1 w2 ⟨rfl,rfl⟩)
   generalize hw2:(w1.setCell ⟨g,2,none⟩ (.int .u32 (xx:Int))).setCell ⟨g,22,none⟩ _=w2 at HX2 HY2 HZ2 HB2 ⊢
   clear hw2 x0 x2 x3 x20 x21 x22 y0 y1 y18 y19 y20 z2 z22
   go_wp2
   go_loopw [5] (fun i wr=>∃ k:Nat,k≤16∧i=.int .i64 k∧Hid (Box wr g 97 (C k))∧Hid (Box wr (g+1) 95 B)∧Hid (Box wr (g+2) 97 O)∧Hid (Below g w wr)) (fun i _=>16 - (intOf i).toNat)
   case atStart=>exact⟨0,by omega,rfl,HX2,HY2,HZ2,HB2⟩
   obtain⟨k,hk,rfl,HX,HY,HZ,HB⟩:=hrel
   clear HX2 HY2 HZ2 HB2
   by_cases hlt:k<16
   case pos=>
    have c1:=HX.out.cell (4+k)
    have z1:=HX.out.frozen (4+k)
    have d1:=HY.out.cell (2+k)
    rw [HCY.out k hlt] at c1
    rw [HTY.out k hlt] at d1
    have i0:(0:Int)≤(k:Int):=by omega
    have i1:(k:Int)<16:=by omega
    by_cases hyz:Y k=Z k
    ·have e1:(Y k != Z k)=false:=by rw [bne_eq_false_iff_eq];exact hyz
     have HN:=hD (HEQ.out k hlt hyz)
     clear hyz
     generalize Y k=yk at c1 e1
     generalize Z k=zk at d1 e1
     go_wp2_with fail
     go_quiet (fail)
     go_wp2
     go_roundw
     case rel=>exact⟨k+1,by omega,by go_num,hD (by rw [HN.out];exact HX.out.drewN _),hD (HY.out.drewN _),hD (HZ.out.drewN _),hD (bel_dn HB.out _)⟩
     case measure=>simp [intOf];omega
    ·have e1:(Y k != Z k)=true:=by rw [bne_iff_ne];exact hyz
     have HN:=hD (HNE.out k hlt hyz)
     clear hyz
     generalize Y k=yk at c1 e1
     generalize Z k=zk at d1 e1
     go_wp2_with fail
     go_quiet (fail)
     go_wp2
     go_roundw
     case rel=>exact⟨k+1,by omega,by go_num,hD (by rw [HN.out];exact(HX.out.drewN _).set_ (4+k) (.int .i64 3)),hD ((HY.out.drewN _).far (p:=⟨g,4+k,none⟩) (by simp) _),hD ((HZ.out.drewN _).far (p:=⟨g,4+k,none⟩) (by simp) _),hD ((bel_dn HB.out _).setCell (p:=⟨g,4+k,none⟩) (Nat.le_refl _) _)⟩
     case measure=>simp [intOf];omega
   case neg=>
   obtain rfl:k=16:=by omega
   go_wp2_with (first | (refine zu zq2 zf1 (by rfl) (.tmp 2) rfl g 0 rfl (C 16) (zj HX.out) (HSZ.out 16) ?_) | (refine ze zf1 rfl (.tmp 4) (.tmp 72) rfl (g+2) 0 (C 16) rfl rfl (zr HZ.out (by rw [HZS.out];decide)) (HSZ.out 16) (H1.out 16) ?_))
   exact bodyPost_ret (zr1 zq2 zf1 rfl _ _ (g+2) (C 16) rfl (zw HZ.out ((HSZ.out 16).trans HZS.out.symm)) (HSZ.out 16)) rfl ⟨by rw [HALL.out],by first | exact zg (C 16).toList _ _ 0 HB.out (by omega) | (rw [hg];exact zg (C 16).toList _ _ 0 HB.out (by omega))⟩
end Go.Proofs.YtlmbiafloiompaaGreatDoor
