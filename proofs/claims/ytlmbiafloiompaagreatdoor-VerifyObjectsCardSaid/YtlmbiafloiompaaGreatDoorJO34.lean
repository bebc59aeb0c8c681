/-
 The law's same (layer 11): two Reports of the same States and Needs. Conditions: States of zm1 places,as many Needs as States.
-/
import Derived.Test.YtlmbiafloiompaaGreatDoorJO33
import Derived.Test.YtlmbiafloiompaaGreatDoorJO14
set_option linter.unusedVariables false
set_option linter.unusedSimpArgs false
namespace Go.Proofs.YtlmbiafloiompaaGreatDoor
open Go Go.RowKit
set_option maxRecDepth 100000
set_option maxHeartbeats 4000000 in
theorem zo19 (y0 y1 y2 y3 y4 y5 y6 y7 y8 y9 y10 y11 y12 y13 y14 y15:Int) (w:World):(Op.equalIn 10000 56 (.agg #[.int .i64 y0,.int .i64 y1,.int .i64 y2,.int .i64 y3,.int .i64 y4,.int .i64 y5,.int .i64 y6,.int .i64 y7,.int .i64 y8,.int .i64 y9,.int .i64 y10,.int .i64 y11,.int .i64 y12,.int .i64 y13,.int .i64 y14,.int .i64 y15]) (.agg #[.int .i64 y0,.int .i64 y1,.int .i64 y2,.int .i64 y3,.int .i64 y4,.int .i64 y5,.int .i64 y6,.int .i64 y7,.int .i64 y8,.int .i64 y9,.int .i64 y10,.int .i64 y11,.int .i64 y12,.int .i64 y13,.int .i64 y14,.int .i64 y15])).run Tryz.prog w=.ok true w:=by
 have u3:=Tryz.underlying3
 have a3:∀ w,(isAgg 3).run Tryz.prog w=.ok false w:=fun _=>by kernel_rfl
 have z3:∀ w,(sizeOf 3).run Tryz.prog w=.ok 1 w:=fun _=>by kernel_rfl
 rw [show(10000:Nat)=9999+1 from rfl,Op.equalIn]
 simp only [Sem.run_bind,run_underlying Tryz.underlying56,Result.andThen_ok]
 simp only [Std.Legacy.Range.forIn_eq_forIn_range',Std.Legacy.Range.size,Nat.sub_zero,Nat.add_sub_cancel,Nat.div_one,List.range'_succ,List.range'_zero,List.forIn_cons,List.forIn_nil]
 go_simp
def yA (s:VSt):Array Value:=(s.y.map (Value.int .i64)).toArray
theorem yA_size {s:VSt} (h:StOk s):(yA s).size=16:=by simp [yA,h.y]
theorem yA_eq {s:VSt} (h:StOk s) (w:World):(Op.equalIn 10000 56 (.agg (yA s)) (.agg (yA s))).run Tryz.prog w=.ok true w:=by
 obtain⟨y0,y1,y2,y3,y4,y5,y6,y7,y8,y9,y10,y11,y12,y13,y14,y15,e⟩:=zm1 s.y h.y
 have e2:yA s=#[.int .i64 y0,.int .i64 y1,.int .i64 y2,.int .i64 y3,.int .i64 y4,.int .i64 y5,.int .i64 y6,.int .i64 y7,.int .i64 y8,.int .i64 y9,.int .i64 y10,.int .i64 y11,.int .i64 y12,.int .i64 y13,.int .i64 y14,.int .i64 y15]:=by unfold yA;rw [e];rfl
 rw [e2]
 exact zo19 _ _ _ _ _ _ _ _ _ _ _ _ _ _ _ _ w
theorem yA_range {s:VSt} (h:StOk s) {w:World} {g:Nat} {t:TypeId} (hb:Box w g t (stA s)):w.rangeAt g 2 (yA s).toList:=fun j v hv=>by
 have hj:j<16:=by
  have h1:=(List.getElem?_eq_some_iff.1 hv).1
  rw [Array.length_toList,yA_size h] at h1
  exact h1
 rw [hb.cell,stA_y h j hj,← hv,Array.getElem?_toList]
 unfold yA
 rw [List.getElem?_toArray,List.getElem?_map]
 unfold yAt
 rw [Int.toNat_natCast,List.getD_eq_getElem?_getD,List.getElem?_eq_getElem (by rw [h.y];exact hj)]
 rfl
theorem ze19:(Tryz.prog.info? 56).map (·.size)=some 16:=by kernel_rfl
theorem y16_row:(Tryz.prog.underlying 56).map TypeDesc.isRow=some true:=by kernel_rfl
theorem ze5 {α:Type} (f:α→List Value) (m:Nat) {w:World} {v:Value} {l:List α} (hf:∀ a ∈ l,(f a).length=m) (h:CellsAt w v l.length (l.flatMap f)) {k:Nat} (hk:k<l.length):∃ c b o,v=.slice (some ⟨b,o,none⟩) l.length c∧b<w.heap.size∧w.rangeAt b (o+k * m) (f l[k]):=by
 obtain⟨A,c,rfl⟩:=CellsAt.form h
 obtain⟨_,b,o,hA,hlt,hc⟩:=h.at_ (by omega)
 subst hA
 refine⟨c,b,o,rfl,hlt,fun j v hv=>?_⟩
 have hj:j<m:=by
  have h1:=(List.getElem?_eq_some_iff.1 hv).1
  rw [hf _ (List.getElem_mem hk)] at h1
  exact h1
 rw [Nat.add_assoc]
 exact hc (k * m+j) v (by rw [zi2 f m l hf k l[k] (List.getElem?_eq_getElem hk) j hj];exact hv)
set_option maxHeartbeats 4000000 in
theorem same_any {l:List VSt} {N:List VNd} (hl:∀ s ∈ l,StOk s) (hN:N.length=l.length) (hlb:l.length≤100000) {vs1 vn1 vs2 vn2:Value} (w:World) (h1:CellsAt w vs1 l.length (l.flatMap stSs)) (h2:CellsAt w vn1 N.length (N.flatMap ndC)) (h3:CellsAt w vs2 l.length (l.flatMap stSs)) (h4:CellsAt w vn2 N.length (N.flatMap ndC)) :
  Calls Tryz.prog 16 #[.agg #[vs1,vn1],vs2,vn2] w fun e w'=>e=.returned (.bool true)∧Below w.heap.size w w':=by
 have hsl:∀ s ∈ l,(stSs s).length=21:=fun s hs=>by rw [stSs,Array.length_toList];exact zh (hl s hs)
 have HP1:=hD (fun k (hk:k<l.length)=>ze5 stSs 21 hsl h1 hk)
 have HP3:=hD (fun k (hk:k<l.length)=>ze5 stSs 21 hsl h3 hk)
 have HP2:=hD (fun k (hk:k<N.length)=>ze5 ndC 3 (fun _ _=>rfl) h2 hk)
 have HP4:=hD (fun k (hk:k<N.length)=>ze5 ndC 3 (fun _ _=>rfl) h4 hk)
 obtain⟨A1,k1,rfl⟩:=CellsAt.form h1
 obtain⟨A2,k2,rfl⟩:=CellsAt.form h2
 obtain⟨A3,k3,rfl⟩:=CellsAt.form h3
 obtain⟨A4,k4,rfl⟩:=CellsAt.form h4
 have HNL:=hD hN
 have HL:=hD hl
 rw [hN]
 have HB:=hD (za w (.cells #[.slice A1 l.length k1,.slice A2 l.length k2] 49))
 have HX:=hD (Box.new w 49 #[.slice A1 l.length k1,.slice A2 l.length k2])
 clear h1 h2 h3 h4 hl hN hsl
 obtain⟨g,hg⟩:∃ g,w.heap.size=g:=⟨_,rfl⟩
 go_enter Tryz.func16,Tryz.ntmps16
 go_upto_region 1 with(fail)
 obtain⟨w1,hw1⟩:∃ w1,w.alloc (.cells #[.slice A1 l.length k1,.slice A2 l.length k2] 49)=w1:=⟨_,rfl⟩
 rw [hw1] at HB HX ⊢
 rw [hg] at HX
 try rw [hg]
 clear hw1
 have q0:=HX.out.cell 0
 have q1:=HX.out.cell 1
 go_wp2
 clear q0 q1
 go_loopw [7,8,9] (fun i _ _ wr=>∃ k:Nat,k≤l.length∧i=.int .i64 k∧Hid (Box wr g 49 #[.slice A1 l.length k1,.slice A2 l.length k2])∧Hid (Below w.heap.size w wr)) (fun i _ _ _=>l.length - (intOf i).toNat)
 case atStart=>exact⟨0,by omega,rfl,HX,HB⟩
 obtain⟨k,hk,rfl,HXk,HBk⟩:=hrel
 clear HX HB
 by_cases hlt:k<l.length
 case neg=>
  go_wp2
  go_ret
  exact⟨rfl,HBk.out⟩
 case pos=>
 obtain⟨c1,b1,o1,he1,hb1,hr1⟩:=HP1.out k hlt
 obtain⟨c3,b3,o3,he3,hb3,hr3⟩:=HP3.out k hlt
 have hkN:k<N.length:=by rw [HNL.out];exact hlt
 obtain⟨c2,b2,o2,he2,hb2,hr2⟩:=HP2.out k hkN
 obtain⟨c4,b4,o4,he4,hb4,hr4⟩:=HP4.out k hkN
 rw [HNL.out] at he2 he4
 obtain⟨rfl,rfl⟩:A1=some ⟨b1,o1,none⟩∧k1=c1:=by injection he1 with x1 _ x2;exact⟨x1,x2⟩
 obtain⟨rfl,rfl⟩:A2=some ⟨b2,o2,none⟩∧k2=c2:=by injection he2 with x1 _ x2;exact⟨x1,x2⟩
 obtain⟨rfl,rfl⟩:A3=some ⟨b3,o3,none⟩∧k3=c3:=by injection he3 with x1 _ x2;exact⟨x1,x2⟩
 obtain⟨rfl,rfl⟩:A4=some ⟨b4,o4,none⟩∧k4=c4:=by injection he4 with x1 _ x2;exact⟨x1,x2⟩
 clear he1 he2 he3 he4
 have hsk:=HL.out l[k] (List.getElem_mem hlt)
 have HSK:=hD hsk
 obtain⟨A,hA⟩:∃ A,stA l[k]=A:=⟨_,rfl⟩
 have HZ:Hid (A.size=21):=hD (by rw [← hA];exact zh hsk)
 have H1:Hid (A.all (·.oneCell')=true):=hD (by rw [← hA];exact zu1 _)
 have hr1':w.rangeAt b1 (o1+k * 21) A.toList:=by rw [← hA];exact hr1
 have hr3':w.rangeAt b3 (o3+k * 21) A.toList:=by rw [← hA];exact hr3
 have HHd:Hid (∀ W,Below wr.heap.size wr W→W.cell? ⟨g,0,none⟩=some (.slice (some ⟨b1,o1,none⟩) l.length k1)∧W.rangeAt b1 (o1+k * 21) A.toList∧W.rangeAt b3 (o3+k * 21) A.toList):=hD (fun W hW=>⟨(hW.cell (p:=⟨g,0,none⟩) HXk.out.lt).trans (HXk.out.cell 0),fun j v hv=>((HBk.out.trans (hW.mono HBk.out.size)).cell (p:=⟨b1,o1+k * 21+j,none⟩) hb1).trans (hr1' j v hv),fun j v hv=>((HBk.out.trans (hW.mono HBk.out.size)).cell (p:=⟨b3,o3+k * 21+j,none⟩) hb3).trans (hr3' j v hv)⟩)
 have HYE:Hid (∀ w,(Op.equalIn 10000 56 (.agg (yA l[k])) (.agg (yA l[k]))).run Tryz.prog w=.ok true w):=hD (fun w=>yA_eq hsk w)
 have HYZ:=hD (yA_size hsk)
 have HYR:=hD (fun(W:World) (g:Nat) (t:TypeId) (h:Box W g t (stA l[k]))=>yA_range hsk h)
 have HC0:=stA_x l[k]
 have HC1:=zs2 l[k]
 have HC18:=zh1 hsk
 have HC19:=ze3 hsk
 have HC20:=zy2 hsk
 rw [hA] at HYR HC0 HC1 HC18 HC19 HC20
 have n0:=(HBk.out.cell (p:=⟨b2,o2+k * 3,none⟩) hb2).trans (hr2 0 _ rfl)
 have n1:=(HBk.out.cell (p:=⟨b2,o2+k * 3+1,none⟩) hb2).trans (hr2 1 _ rfl)
 have n2:=(HBk.out.cell (p:=⟨b2,o2+k * 3+2,none⟩) hb2).trans (hr2 2 _ rfl)
 have m0:=(HBk.out.cell (p:=⟨b4,o4+k * 3,none⟩) hb4).trans (hr4 0 _ rfl)
 have m1:=(HBk.out.cell (p:=⟨b4,o4+k * 3+1,none⟩) hb4).trans (hr4 1 _ rfl)
 have m2:=(HBk.out.cell (p:=⟨b4,o4+k * 3+2,none⟩) hb4).trans (hr4 2 _ rfl)
 have HNN:=hD (And.intro n0 (And.intro n1 (And.intro n2 (And.intro m0 (And.intro m1 m2)))))
 clear hA hr1 hr3 hr2 hr4 hr1' hr3' hsk n0 n1 n2 m0 m1 m2
 have i0:(0:Int)≤(k:Int):=by omega
 have i1:(k:Int)<(l.length:Int):=by omega
 go_upto_region 6 with(fail)
 go_cut [8,9] (fun t8 t9 wc=>∃ g8 g9,t8=.pointer (some ⟨g8,0,none⟩)∧t9=.pointer (some ⟨g9,0,none⟩)∧Hid (Box wc g8 58 A)∧Hid (Box wc g9 95 A)∧Hid (Below wr.heap.size wr wc))
 case first=>
  refine wp_region_noPanic ?_
  refine zt 99 (fun w'=>w'.cell? ⟨g,0,none⟩=some (.slice (some ⟨b1,o1,none⟩) l.length k1)∧w'.rangeAt b1 (o1+k * 21) A.toList∧w'.rangeAt b3 (o3+k * 21) A.toList) (by kernel_rfl) ?_ (fun hHeld=>?_)
  ·exact HHd.out _ (bel_dn (Below.refl _ _) 1)
  change wpAnyT _ _ _ _ _ _ _ _ _ wr.drew
  replace hHeld:wr.drew.cell? ⟨g,0,none⟩=some (.slice (some ⟨b1,o1,none⟩) l.length k1)∧wr.drew.rangeAt b1 (o1+k * 21) A.toList∧wr.drew.rangeAt b3 (o3+k * 21) A.toList:=hHeld
  have HD:Hid (Below wr.heap.size wr wr.drew):=hD (bel_dn (Below.refl _ _) 1)
  generalize wr.drew=w2 at hHeld HD ⊢
  refine tP (i:=0) (v:=?_) rfl ?_ ?_
  rotate_left
  ·(intro w hSw;(try dsimp only at hSw);go_simp;try with_reducible rfl)
  try simp only [qA,qB,qC,Act.put,qD,qE,qF]
  refine tS (i:=1) (v:=?_) rfl ?_ hHeld ?_
  rotate_left
  ·intro w hSw
   try dsimp only at hSw
   obtain⟨h1,h2,h3⟩:=hSw
   go_simp
   try with_reducible rfl
  try simp only [qA,qB,qC,Act.put,qD,qE,qF]
  have st:Stp [2,3]:=trivial
  iterate 2
   refine tPL st (v:=?_) rfl ?_ ?_
   rotate_left
   ·(intro w hSw;(try dsimp only at hSw);go_simp;try with_reducible rfl)
   replace st:=st.tl
   try simp only [qA,qB,qC,Act.put,qD,qE,qF]
  refine tkS (i:=4) (v:=.agg A) rfl (fun _ _ _ h=>h) (zl1 st_row zp3 (by kernel_rfl) (.tmp 33) rfl b1 (o1+k * 21) rfl A HZ.out (fun w hSw=>hSw.2.1)) hHeld ?_
  try simp only [qA,qB,qC,Act.put,qD,qE,qF]
  have st:Stp [5,6,7]:=trivial
  iterate 3
   refine tPL st (v:=?_) rfl ?_ ?_
   rotate_left
   ·(intro w hSw;(try dsimp only at hSw);go_simp;try with_reducible rfl)
   replace st:=st.tl
   try simp only [qA,qB,qC,Act.put,qD,qE,qF]
  refine tkS (i:=8) (v:=.agg A) rfl (fun _ _ _ h=>h) (zl1 zb2 zg1 (by kernel_rfl) (.tmp 37) rfl b3 (o3+k * 21) rfl A HZ.out (fun w hSw=>hSw.2.2)) hHeld ?_
  try simp only [qA,qB,qC,Act.put,qD,qE,qF]
  refine zt3 (rs:=[9,10]) (by kernel_rfl) (by simp) ?_
  refine AllT.cons (o:=_) rfl (fun K hK=>?_) ?_
  ·go_simp
   refine hK.out _ _ (fun _=>?_) (fun hHeld2=>?_)
   ·exact HHd.out _ (HD.out.trans ((za w2 (.cells #[.int .u32 0,.int .i64 0,.int .i64 0,.int .i64 0,.int .i64 0,.int .i64 0,.int .i64 0,.int .i64 0,.int .i64 0,.int .i64 0,.int .i64 0,.int .i64 0,.int .i64 0,.int .i64 0,.int .i64 0,.int .i64 0,.int .i64 0,.int .i64 0,.int .i64 0,.bool false,.bool false] 58)).mono HD.out.size))
   replace hHeld:=hHeld2 (by decide)
   clear hHeld2 hK K
   try simp only [qA,qB,qC,Act.put,qD,qE,qF]
   refine wT1 (i:=10) (by kernel_rfl) rfl fun K hK=>?_
   go_simp
   refine hK.out _ _ (fun _=>?_) (fun hHeld2=>?_)
   ·exact HHd.out _ (HD.out.trans ((za1 w2 (.cells #[.int .u32 0,.int .i64 0,.int .i64 0,.int .i64 0,.int .i64 0,.int .i64 0,.int .i64 0,.int .i64 0,.int .i64 0,.int .i64 0,.int .i64 0,.int .i64 0,.int .i64 0,.int .i64 0,.int .i64 0,.int .i64 0,.int .i64 0,.int .i64 0,.int .i64 0,.bool false,.bool false] 58) (.cells #[.int .u32 0,.int .i64 0,.int .i64 0,.int .i64 0,.int .i64 0,.int .i64 0,.int .i64 0,.int .i64 0,.int .i64 0,.int .i64 0,.int .i64 0,.int .i64 0,.int .i64 0,.int .i64 0,.int .i64 0,.int .i64 0,.int .i64 0,.int .i64 0,.int .i64 0,.bool false,.bool false] 95)).mono HD.out.size))
   replace hHeld:=hHeld2 (by decide)
   clear hHeld2 hK K
   try simp only [qA,qB,qC,Act.put,qD,qE,qF]
   obtain⟨hx1,hx2,hb2⟩:=zn1 w2 #[.int .u32 0,.int .i64 0,.int .i64 0,.int .i64 0,.int .i64 0,.int .i64 0,.int .i64 0,.int .i64 0,.int .i64 0,.int .i64 0,.int .i64 0,.int .i64 0,.int .i64 0,.int .i64 0,.int .i64 0,.int .i64 0,.int .i64 0,.int .i64 0,.int .i64 0,.bool false,.bool false] #[.int .u32 0,.int .i64 0,.int .i64 0,.int .i64 0,.int .i64 0,.int .i64 0,.int .i64 0,.int .i64 0,.int .i64 0,.int .i64 0,.int .i64 0,.int .i64 0,.int .i64 0,.int .i64 0,.int .i64 0,.int .i64 0,.int .i64 0,.int .i64 0,.int .i64 0,.bool false,.bool false] 58 95
   obtain⟨w3,hw3⟩:∃ w3,(w2.alloc (.cells #[.int .u32 0,.int .i64 0,.int .i64 0,.int .i64 0,.int .i64 0,.int .i64 0,.int .i64 0,.int .i64 0,.int .i64 0,.int .i64 0,.int .i64 0,.int .i64 0,.int .i64 0,.int .i64 0,.int .i64 0,.int .i64 0,.int .i64 0,.int .i64 0,.int .i64 0,.bool false,.bool false] 58)).alloc (.cells #[.int .u32 0,.int .i64 0,.int .i64 0,.int .i64 0,.int .i64 0,.int .i64 0,.int .i64 0,.int .i64 0,.int .i64 0,.int .i64 0,.int .i64 0,.int .i64 0,.int .i64 0,.int .i64 0,.int .i64 0,.int .i64 0,.int .i64 0,.int .i64 0,.int .i64 0,.bool false,.bool false] 95)=w3:=⟨_,rfl⟩
   rw [hw3] at hx1 hx2 hb2 hHeld ⊢
   refine wT1 (i:=11) (by kernel_rfl) rfl fun K hK=>?_
   rw [if_pos (by kernel_rfl)]
   refine wp_store_mid 58 (.tmp 8) (.tmp 34) rfl w2.heap.size 0 A rfl rfl (by rw [HZ.out];exact zr hx1 (by decide)) (by rw [HZ.out];exact zp3) H1.out ?_
   refine hK.out _ _ (fun _=>?_) (fun hHeld2=>?_)
   ·exact HHd.out _ (HD.out.trans ((zg _ _ _ 0 hb2 (by omega)).mono HD.out.size))
   replace hHeld:=hHeld2 (by decide)
   clear hHeld2 hK K
   try simp only [qA,qB,qC,Act.put,qD,qE,qF]
   have h9b:=Box.setCells_far (k:=w2.heap.size) (by omega) A.toList w3 _ 0 hx2
   refine wT1 (i:=12) (by kernel_rfl) rfl fun K hK=>?_
   rw [if_pos (by kernel_rfl)]
   refine wp_store_mid 95 (.tmp 9) (.tmp 38) rfl (w2.heap.size+1) 0 A rfl rfl (by rw [HZ.out];exact zr h9b (by decide)) (by rw [HZ.out];exact zg1) H1.out ?_
   refine hK.out _ _ (fun _=>?_) (fun hHeld2=>?_)
   ·exact HHd.out _ (HD.out.trans ((zg _ _ _ 0 (zg _ _ _ 0 hb2 (by omega)) (by omega)).mono HD.out.size))
   clear hHeld2 hK K
   try simp only [qA,qB,qC,Act.put,qD,qE,qF]
   refine zn (by kernel_rfl) (NoPanic.normal ?_) _
   go_wp2
   go_meet
   exact⟨_,_,rfl,rfl,hD (Box.setCells_far (by omega) _ _ _ _ (zw hx1 (by rw [HZ.out];rfl))),hD (zw h9b (by rw [HZ.out];rfl)),hD (HD.out.trans ((zg _ _ _ 0 (zg _ _ _ 0 hb2 (by omega)) (by omega)).mono HD.out.size))⟩
  refine AllT.cons (o:=_) rfl (fun K hK=>?_) ?_
  ·go_simp
   refine hK.out _ _ (fun _=>?_) (fun hHeld2=>?_)
   ·exact HHd.out _ (HD.out.trans ((za w2 (.cells #[.int .u32 0,.int .i64 0,.int .i64 0,.int .i64 0,.int .i64 0,.int .i64 0,.int .i64 0,.int .i64 0,.int .i64 0,.int .i64 0,.int .i64 0,.int .i64 0,.int .i64 0,.int .i64 0,.int .i64 0,.int .i64 0,.int .i64 0,.int .i64 0,.int .i64 0,.bool false,.bool false] 95)).mono HD.out.size))
   replace hHeld:=hHeld2 (by decide)
   clear hHeld2 hK K
   try simp only [qA,qB,qC,Act.put,qD,qE,qF]
   refine wT1 (i:=9) (by kernel_rfl) rfl fun K hK=>?_
   go_simp
   refine hK.out _ _ (fun _=>?_) (fun hHeld2=>?_)
   ·exact HHd.out _ (HD.out.trans ((za1 w2 (.cells #[.int .u32 0,.int .i64 0,.int .i64 0,.int .i64 0,.int .i64 0,.int .i64 0,.int .i64 0,.int .i64 0,.int .i64 0,.int .i64 0,.int .i64 0,.int .i64 0,.int .i64 0,.int .i64 0,.int .i64 0,.int .i64 0,.int .i64 0,.int .i64 0,.int .i64 0,.bool false,.bool false] 95) (.cells #[.int .u32 0,.int .i64 0,.int .i64 0,.int .i64 0,.int .i64 0,.int .i64 0,.int .i64 0,.int .i64 0,.int .i64 0,.int .i64 0,.int .i64 0,.int .i64 0,.int .i64 0,.int .i64 0,.int .i64 0,.int .i64 0,.int .i64 0,.int .i64 0,.int .i64 0,.bool false,.bool false] 58)).mono HD.out.size))
   replace hHeld:=hHeld2 (by decide)
   clear hHeld2 hK K
   try simp only [qA,qB,qC,Act.put,qD,qE,qF]
   obtain⟨hx1,hx2,hb2⟩:=zn1 w2 #[.int .u32 0,.int .i64 0,.int .i64 0,.int .i64 0,.int .i64 0,.int .i64 0,.int .i64 0,.int .i64 0,.int .i64 0,.int .i64 0,.int .i64 0,.int .i64 0,.int .i64 0,.int .i64 0,.int .i64 0,.int .i64 0,.int .i64 0,.int .i64 0,.int .i64 0,.bool false,.bool false] #[.int .u32 0,.int .i64 0,.int .i64 0,.int .i64 0,.int .i64 0,.int .i64 0,.int .i64 0,.int .i64 0,.int .i64 0,.int .i64 0,.int .i64 0,.int .i64 0,.int .i64 0,.int .i64 0,.int .i64 0,.int .i64 0,.int .i64 0,.int .i64 0,.int .i64 0,.bool false,.bool false] 95 58
   obtain⟨w3,hw3⟩:∃ w3,(w2.alloc (.cells #[.int .u32 0,.int .i64 0,.int .i64 0,.int .i64 0,.int .i64 0,.int .i64 0,.int .i64 0,.int .i64 0,.int .i64 0,.int .i64 0,.int .i64 0,.int .i64 0,.int .i64 0,.int .i64 0,.int .i64 0,.int .i64 0,.int .i64 0,.int .i64 0,.int .i64 0,.bool false,.bool false] 95)).alloc (.cells #[.int .u32 0,.int .i64 0,.int .i64 0,.int .i64 0,.int .i64 0,.int .i64 0,.int .i64 0,.int .i64 0,.int .i64 0,.int .i64 0,.int .i64 0,.int .i64 0,.int .i64 0,.int .i64 0,.int .i64 0,.int .i64 0,.int .i64 0,.int .i64 0,.int .i64 0,.bool false,.bool false] 58)=w3:=⟨_,rfl⟩
   rw [hw3] at hx1 hx2 hb2 hHeld ⊢
   refine wT1 (i:=11) (by kernel_rfl) rfl fun K hK=>?_
   rw [if_pos (by kernel_rfl)]
   refine wp_store_mid 58 (.tmp 8) (.tmp 34) rfl (w2.heap.size+1) 0 A rfl rfl (by rw [HZ.out];exact zr hx2 (by decide)) (by rw [HZ.out];exact zp3) H1.out ?_
   refine hK.out _ _ (fun _=>?_) (fun hHeld2=>?_)
   ·exact HHd.out _ (HD.out.trans ((zg _ _ _ 0 hb2 (by omega)).mono HD.out.size))
   replace hHeld:=hHeld2 (by decide)
   clear hHeld2 hK K
   try simp only [qA,qB,qC,Act.put,qD,qE,qF]
   have h9b:=Box.setCells_far (k:=(w2.heap.size+1)) (by omega) A.toList w3 _ 0 hx1
   refine wT1 (i:=12) (by kernel_rfl) rfl fun K hK=>?_
   rw [if_pos (by kernel_rfl)]
   refine wp_store_mid 95 (.tmp 9) (.tmp 38) rfl w2.heap.size 0 A rfl rfl (by rw [HZ.out];exact zr h9b (by decide)) (by rw [HZ.out];exact zg1) H1.out ?_
   refine hK.out _ _ (fun _=>?_) (fun hHeld2=>?_)
   ·exact HHd.out _ (HD.out.trans ((zg _ _ _ 0 (zg _ _ _ 0 hb2 (by omega)) (by omega)).mono HD.out.size))
   clear hHeld2 hK K
   try simp only [qA,qB,qC,Act.put,qD,qE,qF]
   refine zn (by kernel_rfl) (NoPanic.normal ?_) _
   go_wp2
   go_meet
   exact⟨_,_,rfl,rfl,hD (Box.setCells_far (by omega) _ _ _ _ (zw hx2 (by rw [HZ.out];rfl))),hD (zw h9b (by rw [HZ.out];rfl)),hD (HD.out.trans ((zg _ _ _ 0 (zg _ _ _ 0 hb2 (by omega)) (by omega)).mono HD.out.size))⟩
  exact AllT.nil
 case rest=>
 obtain⟨g8,g9,rfl,rfl,HA8,HA9,HBc⟩:=hcut
 have x0:=HA8.out.cell 0
 have x1:=HA8.out.cell 1
 have x18:=HA8.out.cell 18
 have x19:=HA8.out.cell 19
 have x20:=HA8.out.cell 20
 have z0:=HA9.out.cell 0
 have z1:=HA9.out.cell 1
 have z18:=HA9.out.cell 18
 have z19:=HA9.out.cell 19
 have z20:=HA9.out.cell 20
 rw [HC0] at x0 z0
 rw [HC1] at x1 z1
 rw [HC18] at x18 z18
 rw [HC19] at x19 z19
 rw [HC20] at x20 z20
 have HY8:=hD (HYR.out _ _ _ HA8.out)
 have HY9:=hD (HYR.out _ _ _ HA9.out)
 have heq:=HYE.out
 generalize yA l[k]=Y at HY8 HY9 HYZ heq
 generalize l[k].x=sx at x0 z0
 generalize l[k].env=se at x1 z1
 generalize l[k].left=sl at x18 z18
 generalize l[k].alt=sa at x19 z19
 generalize l[k].neck=sn at x20 z20
 clear HC0 HC1 HC18 HC19 HC20 HYE HYR
 go_upto_region 9 with(first | (refine zu y16_row ze19 (by kernel_rfl) (.tmp 52) rfl g8 2 rfl Y HY8.out HYZ.out ?_) | (refine zu y16_row ze19 (by kernel_rfl) (.tmp 54) rfl g9 2 rfl Y HY9.out HYZ.out ?_))
 clear x0 x1 x18 x19 x20 z0 z1 z18 z19 z20
 obtain⟨p0,p1,p2,r0,r1,r2⟩:=HNN.out
 have n0:=(HBc.out.cell (p:=⟨b2,o2+k * 3,none⟩) (Nat.lt_of_lt_of_le hb2 HBk.out.size)).trans p0
 have n1:=(HBc.out.cell (p:=⟨b2,o2+k * 3+1,none⟩) (Nat.lt_of_lt_of_le hb2 HBk.out.size)).trans p1
 have n2:=(HBc.out.cell (p:=⟨b2,o2+k * 3+2,none⟩) (Nat.lt_of_lt_of_le hb2 HBk.out.size)).trans p2
 have m0:=(HBc.out.cell (p:=⟨b4,o4+k * 3,none⟩) (Nat.lt_of_lt_of_le hb4 HBk.out.size)).trans r0
 have m1:=(HBc.out.cell (p:=⟨b4,o4+k * 3+1,none⟩) (Nat.lt_of_lt_of_le hb4 HBk.out.size)).trans r1
 have m2:=(HBc.out.cell (p:=⟨b4,o4+k * 3+2,none⟩) (Nat.lt_of_lt_of_le hb4 HBk.out.size)).trans r2
 have q1:=(HBc.out.cell (p:=⟨g,1,none⟩) HXk.out.lt).trans (HXk.out.cell 1)
 have HXn:=hD (HXk.out.below HBc.out HXk.out.lt)
 have HBn:=hD (HBk.out.trans (HBc.out.mono HBk.out.size))
 clear p0 p1 p2 r0 r1 r2
 generalize N[k].cells=nc at n0 m0
 generalize N[k].words=nw at n1 m1
 generalize N[k].choices=nh at n2 m2
 go_quiet (fail)
 go_wp2
 go_roundw
 case rel=>exact⟨k+1,by omega,by go_num,hD (HXn.out.drewN _),hD (bel_dn HBn.out _)⟩
 case measure=>simp [intOf];omega
end Go.Proofs.YtlmbiafloiompaaGreatDoor
