/-
 verify's pass (layer 11): what is known in a place is taken on to where its instruction goes. Conditions: an object that may be,places as it has them.
-/
import Derived.Test.YtlmbiafloiompaaGreatDoorJO16
import Derived.Test.YtlmbiafloiompaaGreatDoorJO17
set_option linter.unusedVariables false
set_option linter.unusedSimpArgs false
namespace Go.Proofs.YtlmbiafloiompaaGreatDoor
open Go Go.RowKit
set_option maxRecDepth 100000
theorem zd10:(Tryz.prog.info? 133).map (·.size)=some 23:=by kernel_rfl
theorem pl_row:(Tryz.prog.underlying 133).map TypeDesc.isRow=some true:=by kernel_rfl
theorem pl_und:∃ d,Tryz.prog.underlying 133=some d∧d.isRow=true:=by
 have hr:=pl_row
 cases hu:Tryz.prog.underlying 133 with
 | none=>rw [hu] at hr;exact absurd hr (by decide)
 | some d=>
  rw [hu] at hr
  exact⟨d,rfl,Option.some.inj hr⟩
theorem zw15 {ops:Array Oper} {S:World→Prop} {oi:Oper} {a:Act} (hw:Region.wanted oi (yielded ops a.tmps)=true) (x:Operand) (ho:oi.op=.load 133 x)
  (b o:Nat) (hx:a.eval x=.pointer (some ⟨b,o,none⟩)) (cs:List Value) (hA:cs.length=23) (hS:∀ w,S w→w.rangeAt b o cs):YieldsIf Tryz.prog ops S oi (.agg cs.toArray) a:=by
 obtain⟨d,hd,hd'⟩:=pl_und
 exact yieldsIf_load_mid (P:=Tryz.prog) hw 133 x ho b o hx cs d hS hd hd' (by rw [hA];exact zd10)
theorem zz6 {w:World} {g:Nat} {t:TypeId} {A:Array Value} {m:Nat} (h:Box w g t A) (hm:m≤A.size):w.there g 0 m:=fun j hj=>by
 refine⟨?_,h.frozen _⟩
 rw [h.cell,Nat.zero_add,Array.getElem?_eq_getElem (by omega)]
 rfl
theorem zu18 {Z C:Array Value} (h:C.size=Z.size):putL Z 0 C.toList=C:=by
 apply Array.ext_getElem?
 intro j
 rw [zt7 _ _ _ _ (by rw [Array.length_toList];omega),Array.length_toList]
 by_cases hj:j<C.size
 ·rw [if_pos (by omega),Nat.sub_zero,Array.getElem?_toList]
 ·rw [if_neg (by omega),Array.getElem?_eq_none (by omega),Array.getElem?_eq_none (by omega)]
theorem plC_one (p:VPl):(plC p).toArray.all (·.oneCell')=true:=by
 refine Array.all_eq_true_iff_forall_mem.2 fun v hv=>?_
 rw [List.mem_toArray] at hv
 unfold plC at hv
 rcases List.mem_append.1 hv with hv | hv
 ·exact Array.all_eq_true_iff_forall_mem.1 (zu1 p.s) v (by simpa using hv)
 ·simp only [List.mem_cons,List.not_mem_nil,or_false] at hv
  rcases hv with rfl | rfl <;> rfl
theorem ins_one (op a b c d:Int):(#[.int .i64 op,.int .i64 a,.int .i64 b,.int .i64 c,.int .i64 d]:Array Value).all (·.oneCell')=true:=Array.all_eq_true_iff_forall_mem.2 fun v hv=>by
 simp only [List.mem_toArray,List.mem_cons,List.not_mem_nil,or_false] at hv
 rcases hv with rfl | rfl | rfl | rfl | rfl <;> rfl
structure PassC (w wc:World) (g:Nat) (sp:Array Value) (g7 g8:Nat) (pc:List Value) (ia:Array Value):Prop where
 x7:Box wc g7 133 pc.toArray
 x8:Box wc g8 65 ia
 sp:Box wc g 128 sp
 below:Below w.heap.size w wc
 l7:w.heap.size≤g7
 l8:w.heap.size≤g8
theorem PassC.up {w wc wd:World} {g g7 g8:Nat} {sp ia:Array Value} {pc:List Value} (h:PassC w wc g sp g7 g8 pc ia) (hb:Below wc.heap.size wc wd):PassC w wd g sp g7 g8 pc ia:=
 ⟨h.x7.below hb h.x7.lt,h.x8.below hb h.x8.lt,h.sp.below hb h.sp.lt,h.below.trans (hb.mono h.below.size),h.l7,h.l8⟩
theorem zz3 {ops:Array Oper} {rest:List Oper} {op:Oper} {a:Act} {w:World} {Q:Exit→Act→World→Prop} (hw:Region.wanted op (yielded ops a.tmps)=true) (x:Operand) (ho:op.op=.load 58 x)
  (g o:Nat) (hx:a.eval x=.pointer (some ⟨g,o,none⟩)) (A:Array Value) (hb:w.rangeAt g o A.toList) (hs:A.size=21)
  (h:wpList Tryz.prog ops Q rest (a.put op.dst (.agg A)) w):wpList Tryz.prog ops Q (op :: rest) a w:=by
 obtain⟨d,hd,hd'⟩:=st_und
 refine BigFrame.wpList_want hw fun K hK=>wp_load_mid 58 x ho g o hx A.toList d hb hd hd' (by rw [Array.length_toList,hs];exact zp3) ?_
 rw [Array.toArray_toList]
 exact hK _ _ h
theorem zs18 {w w2 w3:World} {g g7 g8:Nat} {sp ia Z Y:Array Value} {pc:List Value} (hl:pc.length=23) (h7:Box w3 g7 133 Z) (h8:Box w3 g8 65 Y) (hb:Below w.heap.size w w2) (hx:Box w2 g 128 sp) (hb2:Below w2.heap.size w2 w3) (l7:w2.heap.size≤g7) (l8:w2.heap.size≤g8) (hne:g7≠g8) (hz:Z.size=23) (hy:ia.size=Y.size) :
  PassC w ((w3.setCells g7 0 pc.toArray.toList).setCells g8 0 ia.toList) g sp g7 g8 pc ia:=by
 have e1:=Box.setCells pc.toArray.toList w3 Z 0 h7
 rw [zu18 (by rw [List.size_toArray,hl,hz])] at e1
 have e2:=Box.setCells_far (fun e=>hne e.symm) pc.toArray.toList w3 Y 0 h8
 have e3:=Box.setCells ia.toList _ Y 0 e2
 rw [zu18 hy] at e3
 have hs:=hb.size
 have f1:Fr (fun k=>w2.heap.size≤k) w2 ((w3.setCells g7 0 pc.toArray.toList).setCells g8 0 ia.toList):=Fr.setCells _ _ _ _ (Fr.setCells _ _ _ _ (Fr.of_below hb2) (.inl l7)) (.inl l8)
 have hb3:=f1.below (Nat.le_refl _) (fun k hk=>hk)
 exact⟨Box.setCells_far hne ia.toList _ _ 0 e1,e3,hx.below hb3 hx.lt,hb.trans (hb3.mono hs),by omega,by omega⟩
theorem zw12 {w:World} {gw g:Nat} {va vf vp vc:Value} {P:List VPl} (h:WkAt w gw g va vf vp vc P) (hP:PlW P) (t:Int) (h0:0≤t) (h1:t<(P.length:Int)) (hm:P.length≤1024) {s:VSt} (hs:StOk s) :
  Calls Tryz.prog 53 #[.pointer (some ⟨gw,0,none⟩),.int .i64 t,.agg (stA s)] w fun e w'=>e=.returned (.tuple #[])∧Fr (fun k=>k=g) w w'∧Box w' g 133 (plA (bringV P t s)):=by
 obtain⟨k,rfl⟩:∃ k:Nat,t=(k:Int):=⟨t.toNat,by omega⟩
 exact come_any h hP.ok k (by omega) hm hs
def PassW (w:World) (gp:Nat) (r:Option (List VPl)) (e:Ending) (w':World):Prop:=
 Fr (fun k=>k=gp) w w'∧match r with
  | none=>e=.returned (.bool false)
  | some Q=>e=.returned (.bool true)∧Box w' gp 133 (plA Q)
set_option maxHeartbeats 32000000 in
theorem pass_any {o:Ob} (ho:ObK o) (ar fr en:Int) (har:0≤ar∧ar≤8) (hen:en≤(o.code.length:Int)) {w:World} {gw gp:Nat} {va vf vp vc:Value} {P:List VPl} (h:WkAt w gw gp va vf vp vc P) (hv:ObAt w va vf vp vc o) (hP:PlW P) (hl:P.length=o.code.length) (n:Nat) (hn:n<P.length) :
  Calls Tryz.prog 55 #[.pointer (some ⟨gw,0,none⟩),.agg #[.int .i64 ar,.int .i64 fr,.int .i64 en],.int .i64 n] w (PassW w gp (passV o ar en n P)):=by
 obtain⟨A1,c1,rfl⟩:=CellsAt.form hv.atoms
 obtain⟨A2,cf,rfl⟩:=CellsAt.form hv.funs
 obtain⟨A3,cp,rfl⟩:=CellsAt.form hv.preds
 obtain⟨A4,cc,rfl⟩:=CellsAt.form hv.code
 have hnc:n<o.code.length:=by omega
 obtain⟨bc,of,rfl,hbc,d0,d1,d2,d3,d4⟩:=zm3 hv.code n hnc
 have HV:=hD hv
 have HW:=hD h
 have hlc:=ho.lc
 have hik:=ho.ins o.code[n] (List.getElem_mem hnc)
 have HPo:=hD hP
 have HPN:=hD (hP P[n] (List.getElem_mem hn))
 obtain⟨pc,hpc⟩:∃ pc,plC P[n]=pc:=⟨_,rfl⟩
 have HPC:=hD hpc
 have HPL:Hid (pc.length=23):=hD (by rw [← hpc];exact zc10 HPN.out.ok)
 have HP1:Hid (pc.toArray.all (·.oneCell')=true):=hD (by rw [← hpc];exact plC_one _)
 have HRG:Hid (w.rangeAt gp (n * 23) pc):=hD (by rw [← hpc];exact zc15 h.pl hP.ok hn)
 have hi:o.code.getD n (0,0,0,0,0)=o.code[n]:=by rw [List.getD_eq_getElem?_getD,List.getElem?_eq_getElem hnc];rfl
 have hp:P.getD n plZero=P[n]:=by rw [List.getD_eq_getElem?_getD,List.getElem?_eq_getElem hn];rfl
 obtain⟨res,hres⟩:∃ res,passV o ar en n P=res:=⟨_,rfl⟩
 have HRES:=hD hres
 rw [hres]
 clear hres hpc
 obtain⟨ix,hix⟩:∃ ix,o.code[n]=ix:=⟨_,rfl⟩
 rw [hix] at d0 d1 d2 d3 d4 hik hi
 obtain⟨op,a,b,c,d⟩:=ix
 simp only at d0 d1 d2 d3 d4
 obtain⟨s,hs⟩:∃ s,P[n].s=s:=⟨_,rfl⟩
 obtain⟨bad,hbad⟩:∃ bad,P[n].bad=bad:=⟨_,rfl⟩
 obtain⟨here,hhere⟩:∃ here,P[n].here=here:=⟨_,rfl⟩
 have HSW:Hid (StW s):=hD (by rw [← hs];exact HPN.out)
 have p21:pc[21]?=some (.bool here):=by rw [← HPC.out,zr3 HPN.out.ok,hhere]
 have p22:pc[22]?=some (.bool bad):=by rw [← HPC.out,zv5 HPN.out.ok,hbad]
 have HRS:Hid (∀ j v,(stA s).toList[j]?=some v→pc[j]?=some v):=hD (fun j v hv=>by
  have hj:j<21:=by
   have h1:=(List.getElem?_eq_some_iff.1 hv).1
   rw [Array.length_toList,zh HSW.out.ok] at h1
   exact h1
  rw [← HPC.out,plC_s HPN.out.ok hj,hs,← Array.getElem?_toList]
  exact hv)
 have HDEF:Hid (res=if bad=true ∨ here=false ∨ asksV o ar (op,a,b,c,d) s=false ∨ leadsV en n (op,a,b,c,d)=false then none
   else some ((labsV (op,a,b,c,d)).foldl (fun Q t=>bringV Q t (if op=26 then makesV o (op,a,b,c,d) s else stOther ar.toNat)) (if onV op=true then bringV P ((n:Int)+1) (makesV o (op,a,b,c,d) s) else P))):=hD (by
  rw [← HRES.out]
  unfold passV
  simp only
  rw [hi,hp,hs,hbad,hhere])
 clear HRES hi hp hs hbad hhere hix
 have HAS:=hD (fun W hw hv=>asks_any ho hik HSW.out.ok ar fr en har (w:=W) (gw:=gw) (gp:=gp) (P:=P) (va:=.slice A1 o.atoms.length c1) (vf:=.slice A2 o.funs.length cf) (vp:=.slice A3 o.preds.length cp) (vc:=.slice (some ⟨bc,of,none⟩) o.code.length cc) hw hv)
 have HMK:=hD (fun hp W hw hv=>makes_any hik HSW.out hp (w:=W) (gw:=gw) (gp:=gp) (P:=P) (va:=.slice A1 o.atoms.length c1) (vf:=.slice A2 o.funs.length cf) (vp:=.slice A3 o.preds.length cp) (vc:=.slice (some ⟨bc,of,none⟩) o.code.length cc) hw hv)
 have HLD:=hD (fun w=>leads_any ar fr en n (by omega) op a b c d w)
 have HLB:=hD (fun w=>zm7 op a b c d w)
 have HON:Hid (∀ w,Calls Tryz.prog 99 #[.int .i64 op] w fun e w'=>e=.returned (.bool (onV op))∧w=w'):=hD (fun w=>zk7 op w)
 have HOB:=hD ho
 have HHw:Hid (∀ W,Below w.heap.size w W→W.cell? ⟨gw,4,none⟩=some (.slice (some ⟨gp,0,none⟩) P.length P.length)∧W.rangeAt gp (n * 23) pc∧W.cell? ⟨gw,3,none⟩=some (.slice (some ⟨bc,of,none⟩) o.code.length cc)∧W.cell? ⟨bc,of+n * 5,none⟩=some (.int .i64 op)∧W.cell? ⟨bc,of+n * 5+1,none⟩=some (.int .i64 a)∧W.cell? ⟨bc,of+n * 5+2,none⟩=some (.int .i64 b)∧W.cell? ⟨bc,of+n * 5+3,none⟩=some (.int .i64 c)∧W.cell? ⟨bc,of+n * 5+4,none⟩=some (.int .i64 d)):=hD (fun W hW=>⟨(hW.cell (p:=⟨gw,4,none⟩) h.wk.lt).trans (h.wk.cell 4),fun j v hj=>(hW.cell (p:=⟨gp,n * 23+j,none⟩) h.pl.lt).trans (HRG.out j v hj),(hW.cell (p:=⟨gw,3,none⟩) h.wk.lt).trans (h.wk.cell 3),(hW.cell (p:=⟨bc,of+n * 5,none⟩) hbc).trans d0,(hW.cell (p:=⟨bc,of+n * 5+1,none⟩) hbc).trans d1,(hW.cell (p:=⟨bc,of+n * 5+2,none⟩) hbc).trans d2,(hW.cell (p:=⟨bc,of+n * 5+3,none⟩) hbc).trans d3,(hW.cell (p:=⟨bc,of+n * 5+4,none⟩) hbc).trans d4⟩)
 have HB1:=hD (za w (.cells #[.int .i64 ar,.int .i64 fr,.int .i64 en] 128))
 have HX1:=hD (Box.new w 128 #[.int .i64 ar,.int .i64 fr,.int .i64 en])
 have HGL:=hD h.pl.lt
 have HGW:=hD h.wk.lt
 have i0:(0:Int)≤(n:Int):=by omega
 have i1:(n:Int)<(P.length:Int):=by omega
 have i2:(n:Int)<(o.code.length:Int):=by omega
 clear h hv hP d0 d1 d2 d3 d4 hbc ho
 go_enter Tryz.func55,Tryz.ntmps55
 go_upto_region 1 with(fail)
 obtain⟨g,hg⟩:∃ g,w.heap.size=g:=⟨_,rfl⟩
 obtain⟨w1,hw1⟩:∃ w1,w.alloc (.cells #[.int .i64 ar,.int .i64 fr,.int .i64 en] 128)=w1:=⟨_,rfl⟩
 have HH:Hid (∀ W,Below w1.heap.size w1 W→W.cell? ⟨gw,4,none⟩=some (.slice (some ⟨gp,0,none⟩) P.length P.length)∧W.rangeAt gp (n * 23) pc∧W.cell? ⟨gw,3,none⟩=some (.slice (some ⟨bc,of,none⟩) o.code.length cc)∧W.cell? ⟨bc,of+n * 5,none⟩=some (.int .i64 op)∧W.cell? ⟨bc,of+n * 5+1,none⟩=some (.int .i64 a)∧W.cell? ⟨bc,of+n * 5+2,none⟩=some (.int .i64 b)∧W.cell? ⟨bc,of+n * 5+3,none⟩=some (.int .i64 c)∧W.cell? ⟨bc,of+n * 5+4,none⟩=some (.int .i64 d)):=hD (fun W hW=>HHw.out W (by
  have:=HB1.out
  rw [hw1] at this
  exact this.trans (hW.mono this.size)))
 rw [hw1] at HB1 HX1 ⊢
 rw [hg] at HX1 ⊢
 clear hw1
 go_cut [7,8] (fun t7 t8 wc=>∃ g7 g8,t7=.pointer (some ⟨g7,0,none⟩)∧t8=.pointer (some ⟨g8,0,none⟩)∧PassC w wc g #[.int .i64 ar,.int .i64 fr,.int .i64 en] g7 g8 pc #[.int .i64 op,.int .i64 a,.int .i64 b,.int .i64 c,.int .i64 d])
 case first=>
  refine wp_region_noPanic ?_
  refine zt 99 (fun w'=>w'.cell? ⟨gw,4,none⟩=some (.slice (some ⟨gp,0,none⟩) P.length P.length)∧w'.rangeAt gp (n * 23) pc∧w'.cell? ⟨gw,3,none⟩=some (.slice (some ⟨bc,of,none⟩) o.code.length cc)∧w'.cell? ⟨bc,of+n * 5,none⟩=some (.int .i64 op)∧w'.cell? ⟨bc,of+n * 5+1,none⟩=some (.int .i64 a)∧w'.cell? ⟨bc,of+n * 5+2,none⟩=some (.int .i64 b)∧w'.cell? ⟨bc,of+n * 5+3,none⟩=some (.int .i64 c)∧w'.cell? ⟨bc,of+n * 5+4,none⟩=some (.int .i64 d)) (by kernel_rfl) ?_ (fun hHeld=>?_)
  ·exact HH.out _ ⟨rfl,rfl,rfl,Nat.le_refl _,fun _ _=>rfl⟩
  change wpAnyT _ _ _ _ _ _ _ _ _ w1.drew
  replace hHeld:w1.drew.cell? ⟨gw,4,none⟩=some (.slice (some ⟨gp,0,none⟩) P.length P.length)∧w1.drew.rangeAt gp (n * 23) pc∧w1.drew.cell? ⟨gw,3,none⟩=some (.slice (some ⟨bc,of,none⟩) o.code.length cc)∧w1.drew.cell? ⟨bc,of+n * 5,none⟩=some (.int .i64 op)∧w1.drew.cell? ⟨bc,of+n * 5+1,none⟩=some (.int .i64 a)∧w1.drew.cell? ⟨bc,of+n * 5+2,none⟩=some (.int .i64 b)∧w1.drew.cell? ⟨bc,of+n * 5+3,none⟩=some (.int .i64 c)∧w1.drew.cell? ⟨bc,of+n * 5+4,none⟩=some (.int .i64 d):=hHeld
  have HHd:Hid (∀ W,Below w1.drew.heap.size w1.drew W→W.cell? ⟨gw,4,none⟩=some (.slice (some ⟨gp,0,none⟩) P.length P.length)∧W.rangeAt gp (n * 23) pc∧W.cell? ⟨gw,3,none⟩=some (.slice (some ⟨bc,of,none⟩) o.code.length cc)∧W.cell? ⟨bc,of+n * 5,none⟩=some (.int .i64 op)∧W.cell? ⟨bc,of+n * 5+1,none⟩=some (.int .i64 a)∧W.cell? ⟨bc,of+n * 5+2,none⟩=some (.int .i64 b)∧W.cell? ⟨bc,of+n * 5+3,none⟩=some (.int .i64 c)∧W.cell? ⟨bc,of+n * 5+4,none⟩=some (.int .i64 d)):=hD (fun W hW=>HH.out W (zm4 (m:=1) hW))
  have HBd:=hD (bel_dn HB1.out 1)
  change Hid (Below w.heap.size w w1.drew) at HBd
  have HXd:=hD HX1.out.drew
  generalize w1.drew=w2 at hHeld HHd HBd HXd ⊢
  have st:Stp [0,1,2]:=trivial
  iterate 3
   refine tPL st (v:=?_) rfl ?_ ?_
   rotate_left
   ·(intro w hSw;(try dsimp only at hSw);go_simp;try with_reducible rfl)
   replace st:=st.tl
   try simp only [qA,qB,qC,Act.put,qD,qE,qF]
  refine tS (i:=3) (v:=?_) rfl ?_ hHeld ?_
  rotate_left
  ·intro w hSw
   try dsimp only at hSw
   obtain⟨h1,h2,h3,h4,h5,h6,h7,h8⟩:=hSw
   go_simp
   try with_reducible rfl
  try simp only [qA,qB,qC,Act.put,qD,qE,qF]
  have st:Stp [4,5]:=trivial
  iterate 2
   refine tPL st (v:=?_) rfl ?_ ?_
   rotate_left
   ·(intro w hSw;(try dsimp only at hSw);go_simp;try with_reducible rfl)
   replace st:=st.tl
   try simp only [qA,qB,qC,Act.put,qD,qE,qF]
  refine tkS (i:=6) (v:=.agg pc.toArray) rfl (fun _ _ _ h=>h) (zw15 (by kernel_rfl) (.tmp 17) rfl gp (n * 23) rfl pc HPL.out (fun w hSw=>hSw.2.1)) hHeld ?_
  try simp only [qA,qB,qC,Act.put,qD,qE,qF]
  have st:Stp [7,8,9,10]:=trivial
  iterate 4
   refine tPL st (v:=?_) rfl ?_ ?_
   rotate_left
   ·(intro w hSw;(try dsimp only at hSw);go_simp;try with_reducible rfl)
   replace st:=st.tl
   try simp only [qA,qB,qC,Act.put,qD,qE,qF]
  refine tS (i:=11) (v:=?_) rfl ?_ hHeld ?_
  rotate_left
  ·intro w hSw
   try dsimp only at hSw
   obtain⟨h1,h2,h3,h4,h5,h6,h7,h8⟩:=hSw
   go_simp
   try with_reducible rfl
  try simp only [qA,qB,qC,Act.put,qD,qE,qF]
  have st:Stp [12,13]:=trivial
  iterate 2
   refine tPL st (v:=?_) rfl ?_ ?_
   rotate_left
   ·(intro w hSw;(try dsimp only at hSw);go_simp;try with_reducible rfl)
   replace st:=st.tl
   try simp only [qA,qB,qC,Act.put,qD,qE,qF]
  refine tS (i:=14) (v:=?_) rfl ?_ hHeld ?_
  rotate_left
  ·intro w hSw
   try dsimp only at hSw
   obtain⟨h1,h2,h3,h4,h5,h6,h7,h8⟩:=hSw
   go_simp
   try with_reducible rfl
  try simp only [qA,qB,qC,Act.put,qD,qE,qF]
  refine zt3 (rs:=[15,16]) (by kernel_rfl) (by simp) ?_
  refine AllT.cons (o:=_) rfl (fun K hK=>?_) ?_
  ·go_simp
   refine hK.out _ _ (fun _=>?_) (fun hHeld2=>?_)
   ·exact HHd.out _ (za w2 (.cells #[.int .u32 0,.int .i64 0,.int .i64 0,.int .i64 0,.int .i64 0,.int .i64 0,.int .i64 0,.int .i64 0,.int .i64 0,.int .i64 0,.int .i64 0,.int .i64 0,.int .i64 0,.int .i64 0,.int .i64 0,.int .i64 0,.int .i64 0,.int .i64 0,.int .i64 0,.bool false,.bool false,.bool false,.bool false] 133))
   replace hHeld:=hHeld2 (by decide)
   clear hHeld2 hK K
   try simp only [qA,qB,qC,Act.put,qD,qE,qF]
   refine wT1 (i:=16) (by kernel_rfl) rfl fun K hK=>?_
   go_simp
   refine hK.out _ _ (fun _=>?_) (fun hHeld2=>?_)
   ·exact HHd.out _ (za1 w2 (.cells #[.int .u32 0,.int .i64 0,.int .i64 0,.int .i64 0,.int .i64 0,.int .i64 0,.int .i64 0,.int .i64 0,.int .i64 0,.int .i64 0,.int .i64 0,.int .i64 0,.int .i64 0,.int .i64 0,.int .i64 0,.int .i64 0,.int .i64 0,.int .i64 0,.int .i64 0,.bool false,.bool false,.bool false,.bool false] 133) (.cells #[.int .i64 0,.int .i64 0,.int .i64 0,.int .i64 0,.int .i64 0] 65))
   replace hHeld:=hHeld2 (by decide)
   clear hHeld2 hK K
   try simp only [qA,qB,qC,Act.put,qD,qE,qF]
   obtain⟨hx1,hx2,hb2⟩:=zn1 w2 #[.int .u32 0,.int .i64 0,.int .i64 0,.int .i64 0,.int .i64 0,.int .i64 0,.int .i64 0,.int .i64 0,.int .i64 0,.int .i64 0,.int .i64 0,.int .i64 0,.int .i64 0,.int .i64 0,.int .i64 0,.int .i64 0,.int .i64 0,.int .i64 0,.int .i64 0,.bool false,.bool false,.bool false,.bool false] #[.int .i64 0,.int .i64 0,.int .i64 0,.int .i64 0,.int .i64 0] 133 65
   obtain⟨w3,hw3⟩:∃ w3,(w2.alloc (.cells #[.int .u32 0,.int .i64 0,.int .i64 0,.int .i64 0,.int .i64 0,.int .i64 0,.int .i64 0,.int .i64 0,.int .i64 0,.int .i64 0,.int .i64 0,.int .i64 0,.int .i64 0,.int .i64 0,.int .i64 0,.int .i64 0,.int .i64 0,.int .i64 0,.int .i64 0,.bool false,.bool false,.bool false,.bool false] 133)).alloc (.cells #[.int .i64 0,.int .i64 0,.int .i64 0,.int .i64 0,.int .i64 0] 65)=w3:=⟨_,rfl⟩
   rw [hw3] at hx1 hx2 hb2 hHeld ⊢
   have hq1:=Box.setCells pc w3 _ 0 hx1
   have hq2:=Box.setCells_far (k:=w2.heap.size) (by omega) pc w3 _ 0 hx2
   skip
   refine wT1 (i:=17) (by kernel_rfl) rfl fun K hK=>?_
   rw [if_pos (by kernel_rfl)]
   refine wp_store_mid 133 (.tmp 7) (.tmp 18) rfl w2.heap.size 0 pc.toArray rfl rfl (zz6 (by assumption) (by rw [List.size_toArray,HPL.out];exact Nat.le_refl _)) (by rw [List.size_toArray,HPL.out];exact zd10) HP1.out ?_
   refine hK.out _ _ (fun _=>?_) (fun hHeld2=>?_)
   ·exact HHd.out _ (zt1 _ _ _ 0 hb2 (by omega))
   replace hHeld:=hHeld2 (by decide)
   clear hHeld2 hK K
   try simp only [qA,qB,qC,Act.put,qD,qE,qF]
   refine wT1 (i:=18) (by kernel_rfl) rfl fun K hK=>?_
   rw [if_pos (by kernel_rfl)]
   refine wp_store_mid 65 (.tmp 8) (.tmp 26) rfl (w2.heap.size+1) 0 #[.int .i64 op,.int .i64 a,.int .i64 b,.int .i64 c,.int .i64 d] rfl rfl (zz6 (A:=#[.int .i64 0,.int .i64 0,.int .i64 0,.int .i64 0,.int .i64 0]) (by assumption) (Nat.le_refl _)) (by kernel_rfl) (ins_one op a b c d) ?_
   refine hK.out _ _ (fun _=>?_) (fun hHeld2=>?_)
   ·exact HHd.out _ (zt1 _ _ _ 0 (zt1 _ _ _ 0 hb2 (by omega)) (by omega))
   clear hHeld2 hK K
   try simp only [qA,qB,qC,Act.put,qD,qE,qF]
   refine zn (by kernel_rfl) (NoPanic.normal ?_) _
   go_wp2
   go_meet
   exact⟨_,_,rfl,rfl,zs18 HPL.out hx1 hx2 HBd.out HXd.out hb2 (by omega) (by omega) (by omega) rfl rfl⟩
  refine AllT.cons (o:=_) rfl (fun K hK=>?_) ?_
  ·go_simp
   refine hK.out _ _ (fun _=>?_) (fun hHeld2=>?_)
   ·exact HHd.out _ (za w2 (.cells #[.int .i64 0,.int .i64 0,.int .i64 0,.int .i64 0,.int .i64 0] 65))
   replace hHeld:=hHeld2 (by decide)
   clear hHeld2 hK K
   try simp only [qA,qB,qC,Act.put,qD,qE,qF]
   refine wT1 (i:=15) (by kernel_rfl) rfl fun K hK=>?_
   go_simp
   refine hK.out _ _ (fun _=>?_) (fun hHeld2=>?_)
   ·exact HHd.out _ (za1 w2 (.cells #[.int .i64 0,.int .i64 0,.int .i64 0,.int .i64 0,.int .i64 0] 65) (.cells #[.int .u32 0,.int .i64 0,.int .i64 0,.int .i64 0,.int .i64 0,.int .i64 0,.int .i64 0,.int .i64 0,.int .i64 0,.int .i64 0,.int .i64 0,.int .i64 0,.int .i64 0,.int .i64 0,.int .i64 0,.int .i64 0,.int .i64 0,.int .i64 0,.int .i64 0,.bool false,.bool false,.bool false,.bool false] 133))
   replace hHeld:=hHeld2 (by decide)
   clear hHeld2 hK K
   try simp only [qA,qB,qC,Act.put,qD,qE,qF]
   obtain⟨hx1,hx2,hb2⟩:=zn1 w2 #[.int .i64 0,.int .i64 0,.int .i64 0,.int .i64 0,.int .i64 0] #[.int .u32 0,.int .i64 0,.int .i64 0,.int .i64 0,.int .i64 0,.int .i64 0,.int .i64 0,.int .i64 0,.int .i64 0,.int .i64 0,.int .i64 0,.int .i64 0,.int .i64 0,.int .i64 0,.int .i64 0,.int .i64 0,.int .i64 0,.int .i64 0,.int .i64 0,.bool false,.bool false,.bool false,.bool false] 65 133
   obtain⟨w3,hw3⟩:∃ w3,(w2.alloc (.cells #[.int .i64 0,.int .i64 0,.int .i64 0,.int .i64 0,.int .i64 0] 65)).alloc (.cells #[.int .u32 0,.int .i64 0,.int .i64 0,.int .i64 0,.int .i64 0,.int .i64 0,.int .i64 0,.int .i64 0,.int .i64 0,.int .i64 0,.int .i64 0,.int .i64 0,.int .i64 0,.int .i64 0,.int .i64 0,.int .i64 0,.int .i64 0,.int .i64 0,.int .i64 0,.bool false,.bool false,.bool false,.bool false] 133)=w3:=⟨_,rfl⟩
   rw [hw3] at hx1 hx2 hb2 hHeld ⊢
   have hq1:=Box.setCells pc w3 _ 0 hx2
   have hq2:=Box.setCells_far (k:=(w2.heap.size+1)) (by omega) pc w3 _ 0 hx1
   skip
   refine wT1 (i:=17) (by kernel_rfl) rfl fun K hK=>?_
   rw [if_pos (by kernel_rfl)]
   refine wp_store_mid 133 (.tmp 7) (.tmp 18) rfl (w2.heap.size+1) 0 pc.toArray rfl rfl (zz6 (by assumption) (by rw [List.size_toArray,HPL.out];exact Nat.le_refl _)) (by rw [List.size_toArray,HPL.out];exact zd10) HP1.out ?_
   refine hK.out _ _ (fun _=>?_) (fun hHeld2=>?_)
   ·exact HHd.out _ (zt1 _ _ _ 0 hb2 (by omega))
   replace hHeld:=hHeld2 (by decide)
   clear hHeld2 hK K
   try simp only [qA,qB,qC,Act.put,qD,qE,qF]
   refine wT1 (i:=18) (by kernel_rfl) rfl fun K hK=>?_
   rw [if_pos (by kernel_rfl)]
   refine wp_store_mid 65 (.tmp 8) (.tmp 26) rfl w2.heap.size 0 #[.int .i64 op,.int .i64 a,.int .i64 b,.int .i64 c,.int .i64 d] rfl rfl (zz6 (A:=#[.int .i64 0,.int .i64 0,.int .i64 0,.int .i64 0,.int .i64 0]) (by assumption) (Nat.le_refl _)) (by kernel_rfl) (ins_one op a b c d) ?_
   refine hK.out _ _ (fun _=>?_) (fun hHeld2=>?_)
   ·exact HHd.out _ (zt1 _ _ _ 0 (zt1 _ _ _ 0 hb2 (by omega)) (by omega))
   clear hHeld2 hK K
   try simp only [qA,qB,qC,Act.put,qD,qE,qF]
   refine zn (by kernel_rfl) (NoPanic.normal ?_) _
   go_wp2
   go_meet
   exact⟨_,_,rfl,rfl,zs18 HPL.out hx2 hx1 HBd.out HXd.out hb2 (by omega) (by omega) (by omega) rfl rfl⟩
  exact AllT.nil
 case rest=>
 obtain⟨g7,g8,rfl,rfl,hpc⟩:=hcut
 have HC:=hD hpc
 clear hpc HB1 HX1 HH
 have HB0:Hid (Below w.heap.size w wc):=hD HC.out.below
 have l7:=HC.out.l7
 have l8:=HC.out.l8
 rw [hg] at l7 l8
 have hgp:gp<g:=by rw [← hg];exact HGL.out
 have hgw:gw<g:=by rw [← hg];exact HGW.out
 have HGS:Hid (g≤wc.heap.size):=hD (by rw [← hg];exact HB0.out.size)
 obtain⟨tb,htb⟩:∃ tb,(bad || !here || !(asksV o ar (op,a,b,c,d) s) || !(leadsV en n (op,a,b,c,d)))=tb:=⟨_,rfl⟩
 have HTB:=hD htb
 clear htb
 have hsa:=zh HSW.out.ok
 have HSA:=hD hsa
 clear hsa
 have HRS7:Hid (∀ W,Box W g7 133 pc.toArray→W.rangeAt g7 0 (stA s).toList):=hD (fun W hW j v hj=>by
  rw [hW.cell,Nat.zero_add,List.getElem?_toArray]
  exact HRS.out j v hj)
 go_upto_region 2 with(fail)
 obtain⟨wb,hwb⟩:∃ wb,wb=wc:=⟨_,rfl⟩
 subst hwb
 go_cut [49] (fun t wd=>t=.bool tb∧Hid (Below g wb wd)∧Hid (PassC w wd g #[.int .i64 ar,.int .i64 fr,.int .i64 en] g7 g8 pc #[.int .i64 op,.int .i64 a,.int .i64 b,.int .i64 c,.int .i64 d]))
 case first=>
  have x22:=HC.out.x7.cell 22
  have x21:=HC.out.x7.cell 21
  rw [List.getElem?_toArray,p22] at x22
  rw [List.getElem?_toArray,p21] at x21
  have s0:=HC.out.sp.cell 0
  have s1:=HC.out.sp.cell 1
  have s2:=HC.out.sp.cell 2
  have y0:=HC.out.x8.cell 0
  have y1:=HC.out.x8.cell 1
  have y2:=HC.out.x8.cell 2
  have y3:=HC.out.x8.cell 3
  have y4:=HC.out.x8.cell 4
  have HRG7:=hD (HRS7.out wb HC.out.x7)
  clear HRS7 HMK HLB HON HDEF HRG HHw
  cases bad with
  | true=>
   have hu:tb=true:=by rw [← HTB.out];rfl
   clear HAS HLD HTB
   go_wp2
   go_meet
   exact⟨by rw [hu],hD (Below.refl _ _),HC⟩
  | false=>
   cases here with
   | false=>
    have hu:tb=true:=by rw [← HTB.out];rfl
    clear HAS HLD HTB
    go_wp2
    go_meet
    exact⟨by rw [hu],hD (Below.refl _ _),HC⟩
   | true=>
    have HASK:=hD (HAS.out wb (HW.out.fr HB0.out) (HV.out.below HB0.out))
    clear HAS
    generalize asksV o ar (op,a,b,c,d) s=asx at HASK HTB
    generalize leadsV en n (op,a,b,c,d)=ld at HLD HTB
    generalize hA:stA s=A at HRG7 HASK HSA
    clear hA
    cases asx with
    | false=>
     have hu:tb=true:=by rw [← HTB.out];rfl
     clear HTB HLD
     go_wp2_with (first | (refine zz3 (by kernel_rfl) (.tmp 38) rfl g7 0 rfl A HRG7.out HSA.out ?_) | (go_at_call 96;refine HASK.out.mono ?_;rintro e1 w5 ⟨rfl,hb5⟩;have HC5:=hD (HC.out.up hb5);have HB5:=hD (hb5.mono HGS.out);clear hb5))
     go_meet
     exact⟨by rw [hu],HB5,HC5⟩
    | true=>
     have hu:(!ld)=tb:=by rw [← HTB.out];rfl
     have HU:=hD hu
     clear HTB hu
     go_wp2_with (first | (refine zz3 (by kernel_rfl) (.tmp 38) rfl g7 0 rfl A HRG7.out HSA.out ?_) | (go_at_call 96;refine HASK.out.mono ?_;rintro e1 w5 ⟨rfl,hb5⟩;have HC5:=hD (HC.out.up hb5);have HB5:=hD (hb5.mono HGS.out);have HG5:=hD (Nat.le_trans HGS.out hb5.size);have s0:=HC5.out.sp.cell 0;have s1:=HC5.out.sp.cell 1;have s2:=HC5.out.sp.cell 2;have y0:=HC5.out.x8.cell 0;have y1:=HC5.out.x8.cell 1;have y2:=HC5.out.x8.cell 2;have y3:=HC5.out.x8.cell 3;have y4:=HC5.out.x8.cell 4;clear hb5) | (go_at_call 97;refine(HLD.out _).mono ?_;rintro e1 w6 ⟨rfl,hb6⟩;have HC6:=hD (HC5.out.up hb6);have HB6:=hD (HB5.out.trans (hb6.mono HG5.out));clear hb6))
     go_meet
     exact⟨by rw [HU.out],HB6,HC6⟩
 case rest=>
 obtain⟨rfl,HBd,HD⟩:=hcut
 clear HC HB0 HAS HLD
 cases htb:tb with
 | true=>
  have HN:Hid (res=none):=hD (by
   rw [HDEF.out,if_pos]
   rw [htb] at HTB
   have h:=HTB.out
   simp only [Bool.or_eq_true,Bool.not_eq_true'] at h
   rcases h with((h | h) | h) | h
   ·exact .inl h
   ·exact .inr (.inl h)
   ·exact .inr (.inr (.inl h))
   ·exact .inr (.inr (.inr h)))
  clear HDEF HTB htb
  go_wp2
  go_ret
  exact⟨Fr.of_below HD.out.below,by rw [HN.out];rfl⟩
 | false=>
  rw [htb] at HTB
  have h:=HTB.out
  simp only [Bool.or_eq_false_iff,Bool.not_eq_false'] at h
  obtain⟨⟨⟨hb1,hb2⟩,hask⟩,hld⟩:=h
  subst hb1 hb2
  obtain⟨ns,hns⟩:∃ ns,makesV o (op,a,b,c,d) s=ns:=⟨_,rfl⟩
  have HNW:Hid (StW ns):=hD (by rw [← hns];exact HSW.out.makes HOB.out hik hask)
  have HMK2:=hD (HMK.out (zj11 hask) wc (HW.out.fr HD.out.below) (HV.out.below HD.out.below))
  rw [hns] at HDEF HMK2
  have hlead:=hld
  unfold leadsV at hlead
  rw [Bool.and_eq_true] at hlead
  have HLL:Hid (∀ t ∈ labsV (op,a,b,c,d),(n:Int)<t∧t<en):=hD (fun t ht=>by
   have:=List.all_eq_true.1 hlead.2 t ht
   simpa using this)
  have HL1:Hid (onV op=true→(n:Int)+1<en):=hD (fun ho=>by
   have h:=hlead.1
   have ho2:onV (op,a,b,c,d).1=true:=ho
   rw [ho2] at h
   simpa using h)
  obtain⟨f,hf⟩:∃ f:Int→VSt,∀ t,f t=if op=26 then ns else stOther ar.toNat:=⟨fun _=>_,fun _=>rfl⟩
  have HFW:Hid (∀ t,StW (f t)):=hD (fun t=>by
   rw [hf]
   split
   ·exact HNW.out
   ·exact StW.other _ (by omega))
  obtain⟨P1,hP1⟩:∃ P1,(if onV op=true then bringV P ((n:Int)+1) ns else P)=P1:=⟨_,rfl⟩
  have HP1W:Hid (PlW P1∧P1.length=P.length):=hD (by
   rw [← hP1]
   split
   ·exact⟨HPo.out.bring _ HNW.out,zw1 _ _ _⟩
   ·exact⟨HPo.out,rfl⟩)
  obtain⟨L,hL⟩:∃ L,labsV (op,a,b,c,d)=L:=⟨_,rfl⟩
  have HRS2:Hid (res=some (L.foldl (fun Q t=>bringV Q t (f t)) P1)):=hD (by
   rw [HDEF.out,if_neg (by rw [hask,hld];decide),hP1,hL]
   congr 1
   have hff:(fun(Q:List VPl) (t:Int)=>bringV Q t (if op=26 then ns else stOther ar.toNat))=fun Q t=>bringV Q t (f t):=by
    funext Q t
    rw [hf]
   rw [hff])
  have HP1:=hD hP1
  have HF26:Hid (op=26→∀ t,f t=ns):=hD (fun h t=>by rw [hf,if_pos h])
  have HFN:Hid (op≠26→∀ t,f t=stOther ar.toNat):=hD (fun h t=>by rw [hf,if_neg h])
  rw [hL] at HLB HLL
  have hLn:L.length≤4:=by rw [← hL,← zs8];exact Nat.le_trans (zt8 _ _) (zx9 _)
  clear HDEF HTB htb hask hld hlead hns hf hP1 hL HMK p21 p22
  have HSB:=hD (zh HNW.out.ok)
  have H1B:=hD (zu1 ns)
  have HCM:=hD (fun W Q t hw hq hl h0 h1=>zw12 (w:=W) (P:=Q) (gw:=gw) (g:=gp) (va:=.slice A1 o.atoms.length c1) (vf:=.slice A2 o.funs.length cf) (vp:=.slice A3 o.preds.length cp) (vc:=.slice (some ⟨bc,of,none⟩) o.code.length cc) hw hq t h0 h1 hl HNW.out.ok)
  have HCO:=hD (fun W Q t hw hq hl h0 h1=>zw12 (w:=W) (P:=Q) (gw:=gw) (g:=gp) (va:=.slice A1 o.atoms.length c1) (vf:=.slice A2 o.funs.length cf) (vp:=.slice A3 o.preds.length cp) (vc:=.slice (some ⟨bc,of,none⟩) o.code.length cc) hw hq t h0 h1 hl (StOk.other ar.toNat (by omega)))
  have HOW:=hD (fun w=>zu12 ar.toNat (by omega) w)
  have har2:((ar.toNat:Nat):Int)=ar:=by omega
  rw [har2] at HOW
  generalize hB:stA ns=B at HMK2 HSB H1B HCM
  clear hB
  generalize stA (stOther ar.toNat)=O at HOW HCO
  have HRG7:=hD (HRS7.out wc HD.out.x7)
  generalize hA:stA s=A at HRG7 HSA HMK2
  clear hA
  have y0:=HD.out.x8.cell 0
  have y1:=HD.out.x8.cell 1
  have y2:=HD.out.x8.cell 2
  have y3:=HD.out.x8.cell 3
  have y4:=HD.out.x8.cell 4
  have HGd:Hid (g≤wc.heap.size):=hD (by rw [← hg];exact HD.out.below.size)
  have hwr:IntKind.i64.wrap ((n:Int)+1)=(n:Int)+1:=IntWalk.i64_in _ (by omega)
  go_upto_region 5 with(first | (refine zu3 rfl (.tmp 52) rfl g7 0 rfl A HRG7.out HSA.out ?_) | (go_at_call 98;refine HMK2.out.mono ?_;rintro e1 w5 ⟨rfl,hb5⟩;have HC5:=hD (HD.out.up hb5);clear hb5) | (refine zj1 rfl (.tmp 9) (.tmp 54) rfl w5.heap.size B _ rfl rfl (Box.new w5 58 _) HSB.out rfl H1B.out ?_))
  have HX6:=hD ((Box.new w5 58 #[.int .u32 0,.int .i64 0,.int .i64 0,.int .i64 0,.int .i64 0,.int .i64 0,.int .i64 0,.int .i64 0,.int .i64 0,.int .i64 0,.int .i64 0,.int .i64 0,.int .i64 0,.int .i64 0,.int .i64 0,.int .i64 0,.int .i64 0,.int .i64 0,.int .i64 0,.bool false,.bool false]).row B)
  have HB6:=hD (zx (za w5 (.cells #[.int .u32 0,.int .i64 0,.int .i64 0,.int .i64 0,.int .i64 0,.int .i64 0,.int .i64 0,.int .i64 0,.int .i64 0,.int .i64 0,.int .i64 0,.int .i64 0,.int .i64 0,.int .i64 0,.int .i64 0,.int .i64 0,.int .i64 0,.int .i64 0,.int .i64 0,.bool false,.bool false] 58)) (Nat.le_refl _) B)
  obtain⟨w6,hw6⟩:∃ w6,(w5.alloc (.cells #[.int .u32 0,.int .i64 0,.int .i64 0,.int .i64 0,.int .i64 0,.int .i64 0,.int .i64 0,.int .i64 0,.int .i64 0,.int .i64 0,.int .i64 0,.int .i64 0,.int .i64 0,.int .i64 0,.int .i64 0,.int .i64 0,.int .i64 0,.int .i64 0,.int .i64 0,.bool false,.bool false] 58)).setRow w5.heap.size B=w6:=⟨_,rfl⟩
  rw [hw6] at HX6 HB6 ⊢
  have hgn:g≤w5.heap.size:=by rw [← hg];exact HC5.out.below.size
  have HC6:Hid (PassC w w6 g #[.int .i64 ar,.int .i64 fr,.int .i64 en] g7 g8 pc #[.int .i64 op,.int .i64 a,.int .i64 b,.int .i64 c,.int .i64 d]):=hD (HC5.out.up HB6.out)
  generalize w5.heap.size=gn at HX6 hgn HB6 ⊢
  clear hw6 HC5 HD HBd HGd y0 y1 y2 y3 y4 HRG7 HRS7
  have HW6:Hid (WkAt w6 gw gp (.slice A1 o.atoms.length c1) (.slice A2 o.funs.length cf) (.slice A3 o.preds.length cp) (.slice (some ⟨bc,of,none⟩) o.code.length cc) P):=hD (HW.out.fr HC6.out.below)
  have y0:=HC6.out.x8.cell 0
  go_upto_if 57 with(go_at_call 99;refine(HON.out _).mono ?_;rintro e1 w5 ⟨rfl,rfl⟩)
  go_cut [] (fun wd=>Hid (Fr (fun k=>k=gp) w6 wd)∧Hid (WkAt wd gw gp (.slice A1 o.atoms.length c1) (.slice A2 o.funs.length cf) (.slice A3 o.preds.length cp) (.slice (some ⟨bc,of,none⟩) o.code.length cc) P1))
  case first=>
   cases hon:onV op with
   | true=>
    have ht:=HL1.out hon
    have HQ:Hid (bringV P ((n:Int)+1) ns=P1):=hD (by rw [← HP1.out,if_pos hon])
    have HC1:=hD (HCM.out w6 P ((n:Int)+1) HW6.out HPo.out (by omega) (by omega) (by omega))
    clear HCM HCO HOW HLB HL1 HP1 hon
    go_wp2_with (first | (refine zf rfl (.tmp 9) rfl gn rfl B HX6.out HSB.out ?_) | (go_at_call 53;refine HC1.out.mono ?_;rintro e1 w7 ⟨rfl,hf7,hp7⟩;have HF7:=hD hf7;have HP7:=hD hp7;clear hf7 hp7))
    go_meet
    exact⟨HF7,hD (HW6.out.upd HF7.out (by rw [← HQ.out];exact HP7.out) HP1W.out.2)⟩
   | false=>
    have HQ:Hid (P=P1):=hD (by rw [← HP1.out,if_neg (by rw [hon];decide)])
    clear HCM HCO HOW HLB HL1 HP1 hon
    go_wp2
    go_meet
    exact⟨hD (Fr.refl _ _),hD (by rw [← HQ.out];exact HW6.out)⟩
  case rest=>
  obtain⟨HF7,HW7⟩:=hcut
  clear HL1 HP1 HON y0
  have hne8:g8≠gp:=by omega
  have hneg:g≠gp:=by omega
  have hnen:gn≠gp:=by omega
  have HX7:Hid (Box wc g8 65 #[.int .i64 op,.int .i64 a,.int .i64 b,.int .i64 c,.int .i64 d]):=hD (HC6.out.x8.fr HF7.out hne8)
  have HS7:Hid (Box wc g 128 #[.int .i64 ar,.int .i64 fr,.int .i64 en]):=hD (HC6.out.sp.fr HF7.out hneg)
  have HN7:Hid (Box wc gn 58 B):=hD (HX6.out.fr HF7.out hnen)
  have HFw:Hid (Fr (fun k=>k=gp) w wc):=hD ((Fr.of_below HC6.out.below).trans HF7.out)
  obtain⟨wb,hwb⟩:∃ wb,wb=wc:=⟨_,rfl⟩
  subst hwb
  clear HF7 HX6 HW6 HB6 HC6
  have y0:=HX7.out.cell 0
  have y1:=HX7.out.cell 1
  have y2:=HX7.out.cell 2
  have y3:=HX7.out.cell 3
  have y4:=HX7.out.cell 4
  have hgb:g≤wb.heap.size:=by rw [← hg];exact HFw.out.size
  go_wp2_with (go_at_call 100;refine(HLB.out _).mono ?_;rintro e1 w8 ⟨v8,rfl,ho8,hb8⟩;obtain⟨A8,k8,hv8,_⟩:=zl ho8;subst hv8;have HO8:=hD ho8;have HX8:=hD (HX7.out.below hb8 HX7.out.lt);have HS8:=hD (HS7.out.below hb8 HS7.out.lt);have HN8:=hD (HN7.out.below hb8 HN7.out.lt);have HW8:=hD (HW7.out.fr hb8);have HF8:=hD (HFw.out.trans (Fr.of_below hb8));clear ho8 hb8)
  clear y0 y1 y2 y3 y4
  have hown:∀ k,(Value.slice A8 L.length k8).ownBlock=some k→k≠gp:=fun k hk=>by
   have:=(own_ge HO8.out hk).1
   omega
  have HOW2:=hD hown
  clear hown
  obtain⟨Pk,hPk⟩:∃ Pk:Nat→List VPl,∀ k,Pk k=(L.take k).foldl (fun Q t=>bringV Q t (f t)) P1:=⟨fun _=>_,fun _=>rfl⟩
  have HPK0:Hid (Pk 0=P1):=hD (by rw [hPk];rfl)
  have HPKS:Hid (∀ k (hk:k<L.length),Pk (k+1)=bringV (Pk k) L[k] (f L[k])):=hD (fun k hk=>by
   rw [hPk,hPk,List.take_succ_eq_append_getElem hk,List.foldl_append]
   rfl)
  have HPKA:Hid (res=some (Pk L.length)):=hD (by rw [hPk,List.take_length];exact HRS2.out)
  have HPKW:Hid (∀ k,PlW (Pk k)∧(Pk k).length=P.length):=hD (fun k=>by
   rw [hPk]
   refine⟨PlW.brings (P:=P1) f _ _ HP1W.out.1 (fun t _=>HFW.out t),?_⟩
   have all:∀ (l:List Int) (R:List VPl),(l.foldl (fun Q t=>bringV Q t (f t)) R).length=R.length:=by
    intro l
    induction l with
    | nil=>intro R;rfl
    | cons t l ih=>intro R;rw [List.foldl_cons,ih,zw1]
   rw [all,HP1W.out.2])
  clear hPk HRS2
  have W0:Hid (WkAt w8 gw gp (.slice A1 o.atoms.length c1) (.slice A2 o.funs.length cf) (.slice A3 o.preds.length cp) (.slice (some ⟨bc,of,none⟩) o.code.length cc) (Pk 0)):=hD (by rw [HPK0.out];exact HW8.out)
  have F0:Hid (Fr (fun k=>k=gp) w8 w8):=hD (Fr.refl _ _)
  go_loopw [11,66] (fun _ i wr=>∃ k:Nat,k≤L.length∧i=.int .i64 k∧Hid (WkAt wr gw gp (.slice A1 o.atoms.length c1) (.slice A2 o.funs.length cf) (.slice A3 o.preds.length cp) (.slice (some ⟨bc,of,none⟩) o.code.length cc) (Pk k))∧Hid (Fr (fun k=>k=gp) w8 wr)) (fun _ i _=>L.length - (intOf i).toNat)
  case atStart=>exact⟨0,by omega,rfl,W0,F0⟩
  obtain⟨k,hk,rfl,HWr,HFr⟩:=hrel
  clear W0 F0
  by_cases hlt:k<L.length
  case pos=>
   obtain⟨_,bo,off,hA8,hlo,hc8⟩:=CellsAt.at_ (CellsAt.of_own (own_fr HO8.out HFr.out HOW2.out) (by decide)) (by omega)
   subst hA8
   have d0:=hc8 k (.int .i64 L[k]) (by simp [hlt])
   have HXr:=hD (HX8.out.fr HFr.out hne8)
   have HSr:=hD (HS8.out.fr HFr.out hneg)
   have HNr:=hD (HN8.out.fr HFr.out hnen)
   have y0:=HXr.out.cell 0
   have s0:=HSr.out.cell 0
   have hlk:=HLL.out L[k] (List.getElem_mem hlt)
   have HST:=hD (HPKS.out k hlt)
   have HPW:=hD (HPKW.out k)
   have HPW2:=hD (HPKW.out (k+1))
   have hpl:=HPW.out.2
   have F26:=hD (fun h=>HF26.out h L[k])
   have FN:=hD (fun h=>HFN.out h L[k])
   clear hc8
   generalize L[k]=t at d0 hlk HST F26 FN
   by_cases h26:op=26
   ·have HE:Hid (Pk (k+1)=bringV (Pk k) t ns):=hD (by rw [HST.out,F26.out h26])
    have HC1:=hD (HCM.out wr (Pk k) t HWr.out HPW.out.1 (by omega) (by omega) (by omega))
    have e26:(op == 26)=true:=by rw [beq_iff_eq];exact h26
    clear HST F26 FN h26
    go_wp2_with (first | (refine zf rfl (.tmp 9) rfl gn rfl B HNr.out HSB.out ?_) | (go_at_call 53;refine HC1.out.mono ?_;rintro e1 w9 ⟨rfl,hf9,hp9⟩;have HF9:=hD hf9;have HP9:=hD hp9;clear hf9 hp9))
    go_roundw
    case rel=>exact⟨k+1,by omega,by go_num,hD (HWr.out.upd HF9.out (by rw [HE.out];exact HP9.out) (by rw [HPW2.out.2,hpl])),hD (HFr.out.trans HF9.out)⟩
    case measure=>simp [intOf];omega
   ·have HE:Hid (Pk (k+1)=bringV (Pk k) t (stOther ar.toNat)):=hD (by rw [HST.out,FN.out h26])
    have e26:(op == 26)=false:=beq_eq_false_iff_ne.2 h26
    have HC1:=hD (fun W (hb:Below wr.heap.size wr W)=>HCO.out W (Pk k) t (HWr.out.fr hb) HPW.out.1 (by omega) (by omega) (by omega))
    clear HST F26 FN h26
    go_wp2_with (first | (go_at_call 101;refine(HOW.out _).mono ?_;rintro e1 w9 ⟨rfl,hb9⟩;have HB9:=hD hb9;clear hb9) | (go_at_call 53;refine(HC1.out _ HB9.out).mono ?_;rintro e1 w10 ⟨rfl,hf10,hp10⟩;have HF10:=hD hf10;have HP10:=hD hp10;clear hf10 hp10))
    go_roundw
    case rel=>exact⟨k+1,by omega,by go_num,hD ((HWr.out.fr HB9.out).upd HF10.out (by rw [HE.out];exact HP10.out) (by rw [HPW2.out.2,hpl])),hD ((HFr.out.trans (Fr.of_below HB9.out)).trans HF10.out)⟩
    case measure=>simp [intOf];omega
  case neg=>
  obtain rfl:k=L.length:=by omega
  go_wp2
  go_ret
  exact⟨HF8.out.trans HFr.out,by rw [HPKA.out];exact⟨rfl,HWr.out.pl⟩⟩
end Go.Proofs.YtlmbiafloiompaaGreatDoor
