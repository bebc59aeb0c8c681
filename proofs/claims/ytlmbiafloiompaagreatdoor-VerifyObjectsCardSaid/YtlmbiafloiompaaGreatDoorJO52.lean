/-
 The document's Check (layer 11) answers verifyOf. Condition: an object of sizes that memory has.
-/
import Derived.Test.YtlmbiafloiompaaGreatDoorJO33
import Derived.Test.YtlmbiafloiompaaGreatDoorJO51
import Derived.Test.YtlmbiafloiompaaGreatDoorJO12
import Derived.Shelf.Abstract
set_option linter.unusedVariables false
set_option linter.unusedSimpArgs false
namespace Go.Proofs.YtlmbiafloiompaaGreatDoor
open Go Go.RowKit
set_option maxRecDepth 100000
theorem zs5 {P:Program} {o:Oper} {a:Act} {w:World} {t:TypeId} {ps:Array (Nat × Operand)} {v:Value} (ho:o.op=.build t ps) {qs:Array (Nat × Value)} (hp:(ps.map fun(i,x)=>(i,a.eval x))=qs) (h:(Instr.build t qs).run P w=.ok v w):(execOp a.eval o).run P w=.ok (.value v) w:=by
 subst hp
 unfold execOp
 simp only [ho,Sem.run_bind,Sem.run_pure,Result.andThen_ok,h]
theorem zk10 (n:Nat) (w:World):(Instr.build 95 #[(0,.int .u32 ((2 ^ n - 1:Nat):Int)),(1,.int .i64 (-1)),(5,.bool true)]).run Tryz.prog w=.ok (.agg (stA (stEntry n))) w:=run_build w _ _ _ (by kernel_rfl)
theorem zl10 (n:Nat) (w:World):(Instr.build 95 #[(0,.int .u32 ((2 ^ n - 1:Nat):Int)),(1,.int .i64 (-1)),(4,.bool true),(5,.bool true)]).run Tryz.prog w=.ok (.agg (stA (stOther n))) w:=run_build w _ _ _ (by kernel_rfl)
theorem zk13 {s:VSt} (h:StOk s) (w:World):(Instr.build 97 #[(0,.bool true),(2,.agg (stA s))]).run Tryz.prog w=.ok (.agg (pdC ⟨true,false,s⟩).toArray) w:=by
 obtain⟨x,env,y,left,alt,neck⟩:=s
 obtain⟨y0,y1,y2,y3,y4,y5,y6,y7,y8,y9,y10,y11,y12,y13,y14,y15,rfl⟩:=zm1 y h.y
 exact run_build w _ _ _ (by kernel_rfl)
def OpsAtD (W:World) (A:Option Addr) (L:List Int):Prop:=L=[] ∨ ∃ b of,of=0∧A=some ⟨b,of,none⟩∧Box W b 3 (L.map (Value.int .i64)).toArray
theorem OpsAtD.up {W W':World} {A:Option Addr} {L:List Int} (h:OpsAtD W A L) (hb:Below W.heap.size W W'):OpsAtD W' A L:=by
 rcases h with h | ⟨b,of,h0,h1,h2⟩
 ·exact .inl h
 ·exact .inr ⟨b,of,h0,h1,h2.below hb h2.lt⟩
theorem OpsAtD.put {W:World} {A:Option Addr} {L:List Int} {gp:Nat} {X:Array Value} (h:OpsAtD W A L) (hp:Box W gp 97 X) (k:Nat) (xs:List Value):OpsAtD (W.setCells gp k xs) A L:=by
 rcases h with h | ⟨b,of,h0,h1,h2⟩
 ·exact .inl h
 ·exact .inr ⟨b,of,h0,h1,Box.setCells_far (Box.ne_ h2 hp (by decide)) _ _ _ _ h2⟩
theorem OpsAtD.at_ {W:World} {A:Option Addr} {L:List Int} (h:OpsAtD W A L) (hl:0<L.length):∃ b of,A=some ⟨b,of,none⟩∧∀ (j:Nat) (v:Value),(L.map (Value.int .i64))[j]?=some v→W.cell? ⟨b,of+j,none⟩=some v:=by
 rcases h with h | ⟨b,of,h0,h1,h2⟩
 ·rw [h] at hl;cases hl
 ·refine⟨b,of,h1,fun j v hj=>?_⟩
  rw [h0,Nat.zero_add,h2.cell,List.getElem?_toArray]
  exact hj
theorem roperE (op:Int) (w:World):Calls Tryz.prog 17 #[.int .i64 op] w fun e w'=>∃ A c,e=.returned (.slice A (opsOf op).length c)∧OpsAtD w' A (opsOf op)∧Below w.heap.size w w':=by
 refine(zl2 op w).mono ?_
 rintro e w' (⟨h,rfl,rfl⟩ | ⟨h,rfl,rfl⟩)
 ·rw [h]
  exact⟨none,0,rfl,.inl rfl,Below.refl _ _⟩
 ·exact⟨_,_,rfl,.inr ⟨w.heap.size,0,rfl,rfl,Box.new w 3 ((opsOf op).map (Value.int .i64)).toArray⟩,za w _⟩
set_option maxHeartbeats 64000000 in
theorem zi15 {o:Ob} (hwf:ObWf o) {va vf vp vc:Value} (w:World) (hv:ObAt w va vf vp vc o) :
  Calls Tryz.prog 15 #[.agg #[va,vf,vp,vc]] w (CheckD w o):=by
 obtain⟨A1,c1,rfl⟩:=CellsAt.form hv.atoms
 obtain⟨A2,cf,rfl⟩:=CellsAt.form hv.funs
 obtain⟨A3,cp,rfl⟩:=CellsAt.form hv.preds
 obtain⟨A4,cc,rfl⟩:=CellsAt.form hv.code
 have HV:=hD hv
 have HRC:=hD (fun W h=>zr20 o hwf (.slice A1 o.atoms.length c1) (.slice A2 o.funs.length cf) (.slice A3 o.preds.length cp) (.slice A4 o.code.length cc) W h)
 have HB0:=hD (za w (.cells #[.slice A1 o.atoms.length c1,.slice A2 o.funs.length cf,.slice A3 o.preds.length cp,.slice A4 o.code.length cc] 27))
 have HX0:=hD (Box.new w 27 #[.slice A1 o.atoms.length c1,.slice A2 o.funs.length cf,.slice A3 o.preds.length cp,.slice A4 o.code.length cc])
 obtain⟨ce,hce⟩:∃ ce,checkOf o=ce:=⟨_,rfl⟩
 rw [hce] at HRC
 have HCE:=hD hce
 clear hv hce
 obtain⟨g,hg⟩:∃ g,w.heap.size=g:=⟨_,rfl⟩
 go_enter Tryz.func15,Tryz.ntmps15
 go_upto_region 1 with(fail)
 obtain⟨w1,hw1⟩:∃ w1,w.alloc (.cells #[.slice A1 o.atoms.length c1,.slice A2 o.funs.length cf,.slice A3 o.preds.length cp,.slice A4 o.code.length cc] 27)=w1:=⟨_,rfl⟩
 rw [hw1] at HB0 HX0 ⊢
 rw [hg] at HX0
 try rw [hg]
 clear hw1
 have q0:=HX0.out.cell 0
 have q1:=HX0.out.cell 1
 have q2:=HX0.out.cell 2
 have q3:=HX0.out.cell 3
 have hlt0:=HX0.out.lt
 by_cases h0:ce=0
 case neg=>
  have e1:(ce != 0)=true:=bne_iff_ne.2 h0
  have HVC:=hD (zk17 (o:=o) (by rw [HCE.out];exact h0))
  rw [HCE.out] at HVC
  go_wp2_with (go_at_call 29;refine(HRC.out _ (HV.out.below HB0.out)).mono ?_;rintro e w2 ⟨rfl,hb2⟩;have HB2:=hD (HB0.out.trans (hb2.mono HB0.out.size));clear hb2)
  (try simp only [Exit.inBlock,Exit.then])
  refine bodyPost_ret (zo1 rfl _ _ _) rfl ?_
  exact zo2 HVC.out rfl HB2.out
 case pos=>
 subst h0
 have HK:=hD (ObK.of HCE.out)
 have hlc:=HK.out.lc
 have hlp:=HK.out.lp
 go_upto_region 4 with(go_at_call 29;refine(HRC.out _ (HV.out.below HB0.out)).mono ?_;rintro e w2 ⟨rfl,hb2⟩;have HB2:=hD (HB0.out.trans (hb2.mono HB0.out.size));have HX2:=hD (HX0.out.below hb2 hlt0);clear hb2)
 clear HRC HB0 HX0 hlt0 q0 q1 q2 q3
 have q2:=HX2.out.cell 2
 go_wp2
 go_loopw [7] (fun i wr=>∃ k:Nat,k≤o.preds.length∧i=.int .i64 k∧Hid ((o.preds.take k).any noneP=false)∧w2=wr) (fun i _=>o.preds.length - (intOf i).toNat)
 case atStart=>exact⟨0,by omega,rfl,hD rfl,rfl⟩
 obtain⟨k,hk,rfl,HN,rfl⟩:=hrel
 by_cases hlt:k<o.preds.length
 case pos=>
  obtain⟨bp,of,rfl,hbp,_,_,hc2⟩:=zd1 HV.out.preds k hlt
  have d2:=(HB2.out.cell (p:=⟨bp,of+k * 3+2,none⟩) hbp).trans hc2
  have i0:(0:Int)≤(k:Int):=by omega
  have i1:(k:Int)<(o.preds.length:Int):=by omega
  by_cases hn:o.preds[k].2.2=65535
  ·have HVN:=hD (v_none (o:=o) HCE.out (List.any_eq_true.2 ⟨o.preds[k],List.getElem_mem hlt,decide_eq_true hn⟩))
   rw [hn] at d2
   clear hc2 hn
   go_wp2
   (try simp only [Exit.inBlock,Exit.then])
   refine bodyPost_ret (zo1 rfl _ _ _) rfl ?_
   exact zo2 HVN.out rfl HB2.out
  ·have HN2:Hid ((o.preds.take (k+1)).any noneP=false):=hD (by
    rw [List.take_succ_eq_append_getElem hlt,List.any_append,HN.out,Bool.false_or]
    have h1:noneP o.preds[k]=false:=decide_eq_false hn
    simp [h1])
   have e1:(o.preds[k].2.2 == 65535)=false:=beq_eq_false_iff_ne.2 hn
   generalize o.preds[k].2.2=en at d2 e1
   clear hc2 hn
   go_wp2
   go_roundw
   case rel=>exact⟨k+1,by omega,by go_num,HN2,by first | rfl | trivial⟩
   case measure=>simp [intOf];omega
 case neg=>
 obtain rfl:k=o.preds.length:=by omega
 rw [List.take_length] at HN
 have hents:=ents_of HCE.out HN.out
 have HEN:=hD hents.1
 clear hents
 have q3:=HX2.out.cell 3
 have hmk:=zm10 o.code.length hlc w2
 have hpl:=Box.new w2 97 (pdA (List.replicate o.code.length plZero))
 have hob:=HX2.out.alloc (.cells (pdA (List.replicate o.code.length plZero)) 97)
 have hbl:=HB2.out.alloc HB2.out.size (.cells (pdA (List.replicate o.code.length plZero)) 97)
 have HC:=hD (CkD.mk hob hpl hbl HB2.out.size)
 obtain⟨PK,hPK⟩:∃ PK:Nat→List VPl,∀ k,PK k=(o.preds.take k).foldl (fun P p=>P.set p.2.2.toNat ⟨true,false,stEntry p.2.1.toNat⟩) (List.replicate o.code.length plZero):=⟨fun k=>_,fun _=>rfl⟩
 have HP0:Hid (PK 0=List.replicate o.code.length plZero):=hD (hPK 0)
 have HPS:Hid (∀ k (hk:k<o.preds.length),PK (k+1)=(PK k).set o.preds[k].2.2.toNat ⟨true,false,stEntry o.preds[k].2.1.toNat⟩):=hD (fun k hk=>by rw [hPK,hPK];exact zg17 o k hk)
 have HPE:Hid (PK o.preds.length=startV o):=hD (by rw [hPK,List.take_length];rfl)
 have HPL:Hid (∀ k,(PK k).length=o.code.length):=hD (fun k=>by rw [hPK,zs10,List.length_replicate])
 have HPW:Hid (∀ k,k≤o.preds.length→PlW (PK k)):=hD (fun k=>by
  induction k with
  | zero=>intro _;rw [HP0.out];exact PlW.zeros _
  | succ k ih=>
   intro hk
   rw [HPS.out k (by omega)]
   intro q hq
   rcases List.mem_or_eq_of_mem_set hq with hq | rfl
   ·exact ih (by omega) q hq
   ·have hp:=HK.out.pred o.preds[k] (List.getElem_mem (by omega))
    exact StW.entry _ (by omega))
 clear hPK hpl hob hbl
 rw [← HP0.out] at HC hmk
 obtain⟨gp,hgp⟩:∃ gp,w2.heap.size=gp:=⟨_,rfl⟩
 rw [hgp] at HC hmk
 go_upto_region 11 with(fail)
 obtain⟨w3,hw3⟩:∃ w3,w2.alloc (.cells (pdA (PK 0)) 97)=w3:=⟨_,rfl⟩
 rw [hw3] at HC ⊢
 clear hw3 hmk q2 q3 HX2 HB2 hgp
 go_wp2
 obtain⟨OBV,hOBV⟩:∃ OBV:Array Value,(#[.slice A1 o.atoms.length c1,.slice A2 o.funs.length cf,.slice A3 o.preds.length cp,.slice A4 o.code.length cc]:Array Value)=OBV:=⟨_,rfl⟩
 have HOV:Hid (OBV[0]?=some (.slice A1 o.atoms.length c1)∧OBV[1]?=some (.slice A2 o.funs.length cf)∧OBV[2]?=some (.slice A3 o.preds.length cp)∧OBV[3]?=some (.slice A4 o.code.length cc)):=hD (by rw [← hOBV];exact⟨rfl,rfl,rfl,rfl⟩)
 rw [hOBV] at HC
 clear hOBV HP0
 go_loopw [10] (fun i wr=>∃ k:Nat,k≤o.preds.length∧i=.int .i64 k∧Hid (CkD w g gp OBV (PK k) wr)) (fun i _=>o.preds.length - (intOf i).toNat)
 case atStart=>exact⟨0,by omega,rfl,HC⟩
 obtain⟨k,hk,rfl,HCk⟩:=hrel
 clear HC
 have q2:=HCk.out.ob.cell 2
 rw [HOV.out.2.2.1] at q2
 by_cases hlt:k<o.preds.length
 case pos=>
  as_aux_lemma=>
   obtain⟨bp,of,rfl,hbp,_,hc1,hc2⟩:=zd1 HV.out.preds k hlt
   have d1:=(HCk.out.below.cell (p:=⟨bp,of+k * 3+1,none⟩) hbp).trans hc1
   have d2:=(HCk.out.below.cell (p:=⟨bp,of+k * 3+2,none⟩) hbp).trans hc2
   have hen:=HEN.out o.preds[k] (List.getElem_mem hlt)
   have har:=HK.out.pred o.preds[k] (List.getElem_mem hlt)
   have HST:=hD (HPS.out k hlt)
   obtain⟨en,he⟩:∃ en:Nat,o.preds[k].2.2=(en:Int):=⟨o.preds[k].2.2.toNat,by omega⟩
   obtain⟨arn,ha⟩:∃ arn:Nat,o.preds[k].2.1=(arn:Int):=⟨o.preds[k].2.1.toNat,by omega⟩
   rw [he] at d2 hen HST
   rw [ha] at d1 har HST
   rw [Int.toNat_natCast,Int.toNat_natCast] at HST
   clear he ha hc1 hc2
   have HF:=hD (fun w=>zu7 arn (by omega) w)
   have hq:StOk (stEntry arn):=StOk.entry arn (by omega)
   have HSQ:=hD (za2 (p:=⟨true,false,stEntry arn⟩) hq)
   have HQ1:=hD (zt4 ⟨true,false,stEntry arn⟩)
   have henl:en<(PK k).length:=by rw [HPL.out];omega
   have HTH:=hD (fun W (h:CkD w g gp OBV (PK k) W)=>zz9 h.pl (HPW.out k hk).ok henl)
   have HPT:=hD (fun W (h:CkD w g gp OBV (PK k) W)=>h.put (q:=⟨true,false,stEntry arn⟩) (HPW.out k hk).ok henl hq)
   rw [← HST.out] at HPT
   have i0:(0:Int)≤(k:Int):=by omega
   have i1:(k:Int)<(o.preds.length:Int):=by omega
   have j0:(0:Int)≤(en:Int):=by omega
   have j1:(en:Int)<(o.code.length:Int):=by omega
   go_upto_region 14 with(fail)
   refine wp_region_noPanic ?_
   refine zt 17 (fun w'=>w'.cell? ⟨g,2,none⟩=some (.slice (some ⟨bp,of,none⟩) o.preds.length cp)∧w'.cell? ⟨bp,of+k * 3+1,none⟩=some (.int .i64 (arn:Int))∧w'.cell? ⟨bp,of+k * 3+2,none⟩=some (.int .i64 (en:Int))) (by kernel_rfl) ?_ (fun hHeld=>?_)
   ·exact⟨q2,d1,d2⟩
   change wpAnyT _ _ _ _ _ _ _ _ _ wr.drew
   replace hHeld:wr.drew.cell? ⟨g,2,none⟩=some (.slice (some ⟨bp,of,none⟩) o.preds.length cp)∧wr.drew.cell? ⟨bp,of+k * 3+1,none⟩=some (.int .i64 (arn:Int))∧wr.drew.cell? ⟨bp,of+k * 3+2,none⟩=some (.int .i64 (en:Int)):=hHeld
   have HC:=hD (HCk.out.drewN 1)
   change Hid (CkD w g gp OBV (PK k) wr.drew) at HC
   generalize wr.drew=w4 at HC hHeld ⊢
   have st:Stp [0,1]:=trivial
   iterate 2
    refine tPL st (v:=?_) rfl ?_ ?_
    rotate_left
    ·(intro w hSw;(try dsimp only at hSw);go_simp;try with_reducible rfl)
    replace st:=st.tl
    try simp only [qA,qB,qC,Act.put,qD,qE,qF]
   refine tS (i:=2) (v:=?_) rfl ?_ hHeld ?_
   rotate_left
   ·intro w hSw
    try dsimp only at hSw
    obtain⟨h1,h2,h3⟩:=hSw
    go_simp
    try with_reducible rfl
   try simp only [qA,qB,qC,Act.put,qD,qE,qF]
   have st:Stp [3,4,5]:=trivial
   iterate 3
    refine tPL st (v:=?_) rfl ?_ ?_
    rotate_left
    ·(intro w hSw;(try dsimp only at hSw);go_simp;try with_reducible rfl)
    replace st:=st.tl
    try simp only [qA,qB,qC,Act.put,qD,qE,qF]
   refine tS (i:=6) (v:=?_) rfl ?_ hHeld ?_
   rotate_left
   ·intro w hSw
    try dsimp only at hSw
    obtain⟨h1,h2,h3⟩:=hSw
    go_simp
    try with_reducible rfl
   try simp only [qA,qB,qC,Act.put,qD,qE,qF]
   refine tP (i:=7) (v:=?_) rfl ?_ ?_
   rotate_left
   ·(intro w hSw;(try dsimp only at hSw);go_simp;try with_reducible rfl)
   try simp only [qA,qB,qC,Act.put,qD,qE,qF]
   refine tS (i:=8) (v:=?_) rfl ?_ hHeld ?_
   rotate_left
   ·intro w hSw
    try dsimp only at hSw
    obtain⟨h1,h2,h3⟩:=hSw
    go_simp
    try with_reducible rfl
   try simp only [qA,qB,qC,Act.put,qD,qE,qF]
   have st:Stp [9,10,11]:=trivial
   iterate 3
    refine tPL st (v:=?_) rfl ?_ ?_
    rotate_left
    ·(intro w hSw;(try dsimp only at hSw);go_simp;try with_reducible rfl)
    replace st:=st.tl
    try simp only [qA,qB,qC,Act.put,qD,qE,qF]
   refine tS (i:=12) (v:=?_) rfl ?_ hHeld ?_
   rotate_left
   ·intro w hSw
    try dsimp only at hSw
    obtain⟨h1,h2,h3⟩:=hSw
    go_simp
    try with_reducible rfl
   try simp only [qA,qB,qC,Act.put,qD,qE,qF]
   refine wT1 (i:=13) (by kernel_rfl) rfl fun K hK=>?_
   refine zp (vs:=#[.int .i64 (arn:Int)]) (by kernel_rfl) (enters_of Tryz.func30 (by kernel_rfl) rfl) _ rfl (by kernel_rfl) ?_
   refine(HF.out w4).mono ?_
   rintro e1 w4 ⟨rfl,rfl⟩
   refine⟨_,rfl,?_⟩
   refine hK.out _ _ (fun _=>?_) (fun hHeld2=>?_)
   ·exact hHeld
   replace hHeld:=hHeld2 (by decide)
   clear hHeld2 hK K
   try simp only [qA,qB,qC,Act.put,qD,qE,qF]
   refine tkP (i:=14) (v:=.agg (stA (stEntry arn))) rfl (fun _ _ _ h=>h) (Or.inl ⟨by kernel_rfl,fun w _=>zs5 (qs:=#[(0,.int .u32 ((2 ^ arn - 1:Nat):Int)),(1,.int .i64 (-1)),(5,.bool true)]) rfl (by kernel_rfl) (zk10 arn w)⟩) ?_
   try simp only [qA,qB,qC,Act.put,qD,qE,qF]
   refine tkP (i:=15) (v:=.agg (pdC ⟨true,false,stEntry arn⟩).toArray) rfl (fun _ _ _ h=>h) (Or.inl ⟨by kernel_rfl,fun w _=>zs5 (qs:=#[(0,.bool true),(2,.agg (stA (stEntry arn)))]) rfl (by kernel_rfl) (zk13 hq w)⟩) ?_
   try simp only [qA,qB,qC,Act.put,qD,qE,qF]
   refine tP (i:=16) (v:=?_) rfl ?_ ?_
   rotate_left
   ·(intro w hSw;(try dsimp only at hSw);go_simp;try with_reducible rfl)
   try simp only [qA,qB,qC,Act.put,qD,qE,qF]
   refine wT1 (i:=17) (by kernel_rfl) rfl fun K hK=>?_
   rw [if_pos (by kernel_rfl)]
   refine wp_store_mid 97 (.tmp 68) (.tmp 67) rfl gp (en * 23) (pdC ⟨true,false,stEntry arn⟩).toArray rfl rfl (by rw [List.size_toArray,HSQ.out];exact HTH.out _ HC.out) (by rw [List.size_toArray,HSQ.out];exact zf1) HQ1.out ?_
   refine hK.out _ _ (fun h=>absurd h (by decide)) (fun _=>?_)
   clear hK K
   try simp only [qA,qB,qC,Act.put,qD,qE,qF]
   refine zn (by kernel_rfl) (NoPanic.normal ?_) _
   have HC2:=hD (HPT.out _ HC.out)
   go_wp2
   go_roundw
   case rel=>exact⟨k+1,by omega,by go_num,HC2⟩
   case measure=>simp [intOf];omega
 case neg=>
 obtain rfl:k=o.preds.length:=by omega
 rw [HPE.out] at HCk
 have hSW:PlW (startV o):=by rw [← HPE.out];exact HPW.out _ (Nat.le_refl _)
 have hSL:(startV o).length=o.code.length:=by rw [← HPE.out];exact HPL.out _
 have HINV:Hid (PlW (startV o)∧InCode o (startV o)∧(startV o).length=o.code.length∧([]:List VSt).length=0):=hD ⟨hSW,InCode.start o,hSL,rfl⟩
 have HROW:Hid (wr.ownsRow w.heap.size 95 21 (.slice none 0 0) 0 (([]:List VSt).flatMap stSs)):=hD ⟨rfl,.inl ⟨rfl,rfl⟩⟩
 have HWK:Hid (walkV o (o.code.length - 0) 0 (startV o) []=walkV o o.code.length 0 (startV o) []):=hD rfl
 have HC:=HCk
 clear HPE HPW HPL HPS HCk hSW hSL
 go_wp2
 clear q2
 go_loopw [11,12,13,14,15,16,17,18,19,20] (fun st i _ _ _ _ _ _ _ _ wr=>∃ (n:Nat) (P:List VPl) (l:List VSt) (vs:Value),n≤o.code.length∧i=.int .i64 n∧vs=st∧Hid (CkD w g gp OBV P wr)∧Hid (wr.ownsRow w.heap.size 95 21 vs n (l.flatMap stSs))∧Hid (PlW P∧InCode o P∧P.length=o.code.length∧l.length=n)∧Hid (walkV o (o.code.length - n) n P l=walkV o o.code.length 0 (startV o) [])) (fun _ i _ _ _ _ _ _ _ _ _=>o.code.length - (intOf i).toNat)
 case atStart=>exact⟨0,startV o,[],_,by omega,rfl,rfl,HC,HROW,HINV,HWK⟩
 obtain⟨n,P,l,vs,hn,rfl,rfl,HCn,HRn,HIn,HWn⟩:=hrel
 clear HC HROW HINV HWK
 by_cases hnl:n<o.code.length
 case neg=>
  obtain rfl:n=o.code.length:=by omega
  have hok:walkV o o.code.length 0 (startV o) []=.ok l:=by
   rw [← HWn.out,Nat.sub_self]
   rfl
  have HVO:=hD (v_ok HCE.out HN.out hok)
  have HND:=hD (fun W h=>zu20 HK.out (zk14 hok) (va:=.slice A1 o.atoms.length c1) (vf:=.slice A2 o.funs.length cf) (vp:=.slice A3 o.preds.length cp) (vc:=.slice A4 o.code.length cc) (w:=W) h)
  have HLL:Hid (l.length=o.code.length):=hD HIn.out.2.2.2
  have q0:=HCn.out.ob.cell 0
  have q1:=HCn.out.ob.cell 1
  have q2:=HCn.out.ob.cell 2
  have q3:=HCn.out.ob.cell 3
  rw [HOV.out.1] at q0
  rw [HOV.out.2.1] at q1
  rw [HOV.out.2.2.1] at q2
  rw [HOV.out.2.2.2] at q3
  clear hok
  as_aux_lemma=>
   go_wp2_with (go_at_call 35;refine(HND.out _ (HV.out.below HCn.out.below)).mono ?_;rintro e w5 ⟨vn,rfl,hvn,hb5⟩;have HVN:=hD hvn;have HB5:=hD hb5;clear hvn hb5)
   (try simp only [Exit.inBlock,Exit.then])
   refine bodyPost_ret (zo1 rfl _ _ _) rfl ?_
   have hst:=own_fr (S:=fun _=>False) HRn.out (Fr.of_below HB5.out) (fun _ _ x=>x)
   exact checkD_ok HVO.out rfl (by rw [HLL.out];exact CellsAt.of_own hst (by decide)) (by rw [zp2];exact HVN.out) (HCn.out.below.trans (HB5.out.mono HCn.out.below.size))
 case pos=>
 have hPl:=HIn.out.2.2.1
 have hnP:n<P.length:=by omega
 obtain⟨p,hp⟩:∃ p,P[n]=p:=⟨_,rfl⟩
 have hpm:p ∈ P:=by rw [← hp];exact List.getElem_mem hnP
 have hpW:=HIn.out.1 p hpm
 have HPW:=hD hpW
 have HGD:Hid (P.getD n plZero=p):=hD (by rw [List.getD_eq_getElem?_getD,List.getElem?_eq_getElem hnP,← hp];rfl)
 have HGE:Hid (P[n]?=some p):=hD (by rw [List.getElem?_eq_getElem hnP,hp])
 have HRG:=hD (fun W (h:CkD w g gp OBV P W)=>by have:=za10 h.pl HIn.out.1.ok hnP;rw [hp] at this;exact this)
 have HPZ:=hD (za2 (p:=p) hpW.ok)
 have HPZ2:Hid ((pdC p).toArray.size=23):=hD (by rw [List.size_toArray];exact za2 (p:=p) hpW.ok)
 have HP1:=hD (zt4 p)
 obtain⟨own,hown⟩:∃ own,ownV o n=own:=⟨_,rfl⟩
 have HOW:=hD hown
 have HONE:=hD (fun W h=>zi13 (o:=o) (by omega) n (va:=.slice A1 o.atoms.length c1) (vf:=.slice A2 o.funs.length cf) (vp:=.slice A3 o.preds.length cp) (vc:=.slice A4 o.code.length cc) W h)
 rw [hown] at HONE
 have HBADW:Hid (∀ (h:passV o (arityP o own) (stopV o n) n P=none),verifyOf o=([],[],14,(n:Int))):=hD (fun h=>v_bad HCE.out HN.out (by
  rw [← HWn.out,show o.code.length - n=(o.code.length - (n+1))+1 by omega]
  exact walk_stop (by rw [hown];exact h)))
 clear hown hp hpm
 have n0:(0:Int)≤(n:Int):=by omega
 have n1:(n:Int)<(o.code.length:Int):=by omega
 have q0:=HCn.out.ob.cell 0
 have q1:=HCn.out.ob.cell 1
 have q2:=HCn.out.ob.cell 2
 have q3:=HCn.out.ob.cell 3
 rw [HOV.out.1] at q0
 rw [HOV.out.2.1] at q1
 rw [HOV.out.2.2.1] at q2
 rw [HOV.out.2.2.2] at q3
 have hgs:=HCn.out.below.size
 go_upto_region 19 with(fail)
 go_cut [13,14] (fun vq vo wc=>∃ gq,vq=.pointer (some ⟨gq,0,none⟩)∧vo=.int .i64 own∧Hid (Box wc gq 97 (pdC p).toArray)∧Hid (gp<gq)∧Hid (Below wr.heap.size wr wc))
 case first=>
  as_aux_lemma=>
   have HHd:Hid (∀ W,CkD w g gp OBV P W→W.rangeAt gp (n * 23) (pdC p).toArray.toList∧W.cell? ⟨g,0,none⟩=some (.slice A1 o.atoms.length c1)∧W.cell? ⟨g,1,none⟩=some (.slice A2 o.funs.length cf)∧W.cell? ⟨g,2,none⟩=some (.slice A3 o.preds.length cp)∧W.cell? ⟨g,3,none⟩=some (.slice A4 o.code.length cc)):=hD (fun W h=>⟨HRG.out W h,by rw [h.ob.cell,HOV.out.1],by rw [h.ob.cell,HOV.out.2.1],by rw [h.ob.cell,HOV.out.2.2.1],by rw [h.ob.cell,HOV.out.2.2.2]⟩)
   refine wp_region_noPanic ?_
   refine zt 99 (fun w'=>w'.rangeAt gp (n * 23) (pdC p).toArray.toList∧w'.cell? ⟨g,0,none⟩=some (.slice A1 o.atoms.length c1)∧w'.cell? ⟨g,1,none⟩=some (.slice A2 o.funs.length cf)∧w'.cell? ⟨g,2,none⟩=some (.slice A3 o.preds.length cp)∧w'.cell? ⟨g,3,none⟩=some (.slice A4 o.code.length cc)) (by kernel_rfl) ?_ (fun hHeld=>?_)
   ·exact HHd.out _ (HCn.out.drewN 1)
   change wpAnyT _ _ _ _ _ _ _ _ _ wr.drew
   replace hHeld:wr.drew.rangeAt gp (n * 23) (pdC p).toArray.toList∧wr.drew.cell? ⟨g,0,none⟩=some (.slice A1 o.atoms.length c1)∧wr.drew.cell? ⟨g,1,none⟩=some (.slice A2 o.funs.length cf)∧wr.drew.cell? ⟨g,2,none⟩=some (.slice A3 o.preds.length cp)∧wr.drew.cell? ⟨g,3,none⟩=some (.slice A4 o.code.length cc):=hHeld
   have HC:=hD (HCn.out.drewN 1)
   have HD:Hid (Below wr.heap.size wr wr.drew):=hD (bel_dn (Below.refl _ _) 1)
   change Hid (CkD w g gp OBV P wr.drew) at HC
   have hlp4:=HC.out.pl.lt
   generalize wr.drew=w4 at HC HD hHeld hlp4 ⊢
   have st:Stp [0,1,2]:=trivial
   iterate 3
    refine tPL st (v:=?_) rfl ?_ ?_
    rotate_left
    ·(intro w hSw;(try dsimp only at hSw);go_simp;try with_reducible rfl)
    replace st:=st.tl
    try simp only [qA,qB,qC,Act.put,qD,qE,qF]
   refine tkS (i:=3) (v:=.agg (pdC p).toArray) rfl (fun _ _ _ h=>h) (zl1 zq2 zf1 (by kernel_rfl) (.tmp 76) rfl gp (n * 23) rfl (pdC p).toArray HPZ2.out (fun w hSw=>hSw.1)) hHeld ?_
   try simp only [qA,qB,qC,Act.put,qD,qE,qF]
   refine tS (i:=4) (v:=?_) rfl ?_ hHeld ?_
   rotate_left
   ·intro w hSw
    try dsimp only at hSw
    obtain⟨h1,h2,h3,h4,h5⟩:=hSw
    go_simp
    try with_reducible rfl
   try simp only [qA,qB,qC,Act.put,qD,qE,qF]
   refine tP (i:=5) (v:=?_) rfl ?_ ?_
   rotate_left
   ·(intro w hSw;(try dsimp only at hSw);go_simp;try with_reducible rfl)
   try simp only [qA,qB,qC,Act.put,qD,qE,qF]
   refine zt3 (rs:=[6,7]) (by kernel_rfl) (by simp) ?_
   refine AllT.cons (o:=_) rfl (fun K hK=>?_) ?_
   ·refine zp (vs:=#[.agg #[.slice A1 o.atoms.length c1,.slice A2 o.funs.length cf,.slice A3 o.preds.length cp,.slice A4 o.code.length cc],.int .i64 (n:Int)]) (by kernel_rfl) (enters_of Tryz.func31 (by kernel_rfl) rfl) _ rfl (by kernel_rfl) ?_
    refine(HONE.out w4 (HV.out.below HC.out.below)).mono ?_
    rintro e1 w5 ⟨rfl,hb5⟩
    refine⟨_,rfl,?_⟩
    have HC5:=HC.out.up hb5
    refine hK.out _ _ (fun _=>?_) (fun hHeld2=>?_)
    ·exact HHd.out _ HC5
    replace hHeld:=hHeld2 (by decide)
    clear hHeld2 hK K
    try simp only [qA,qB,qC,Act.put,qD,qE,qF]
    refine wT1 (i:=7) (by kernel_rfl) rfl fun K hK=>?_
    go_simp
    have hba:=za w5 (.cells #[.bool false,.bool false,.int .u32 0,.int .i64 0,.int .i64 0,.int .i64 0,.int .i64 0,.int .i64 0,.int .i64 0,.int .i64 0,.int .i64 0,.int .i64 0,.int .i64 0,.int .i64 0,.int .i64 0,.int .i64 0,.int .i64 0,.int .i64 0,.int .i64 0,.int .i64 0,.int .i64 0,.bool false,.bool false] 97)
    have hq:=Box.new w5 97 #[.bool false,.bool false,.int .u32 0,.int .i64 0,.int .i64 0,.int .i64 0,.int .i64 0,.int .i64 0,.int .i64 0,.int .i64 0,.int .i64 0,.int .i64 0,.int .i64 0,.int .i64 0,.int .i64 0,.int .i64 0,.int .i64 0,.int .i64 0,.int .i64 0,.int .i64 0,.int .i64 0,.bool false,.bool false]
    have HC6:=HC5.up hba
    have hD5:=HD.out.trans (hb5.mono HD.out.size)
    have hD6:=hD5.trans (hba.mono hD5.size)
    have hlp5:=hb5.size
    refine hK.out _ _ (fun _=>?_) (fun hHeld2=>?_)
    ·exact HHd.out _ HC6
    replace hHeld:=hHeld2 (by decide)
    clear hHeld2 hK K
    try simp only [qA,qB,qC,Act.put,qD,qE,qF]
    refine wT1 (i:=8) (by kernel_rfl) rfl fun K hK=>?_
    rw [if_pos (by kernel_rfl)]
    refine wp_store_mid 97 (.tmp 13) (.tmp 77) rfl w5.heap.size 0 (pdC p).toArray rfl rfl (by rw [HPZ2.out];exact zr hq (by decide)) (by rw [HPZ2.out];exact zf1) HP1.out ?_
    have hq2:=zw (A:=(pdC p).toArray) hq (by rw [HPZ2.out];rfl)
    have hb2:=zg (pdC p).toArray.toList _ _ 0 hD6 hD5.size
    refine hK.out _ _ (fun _=>?_) (fun hHeld2=>?_)
    ·exact HHd.out _ (HCn.out.up hb2)
    replace hHeld:=hHeld2 (by decide)
    clear hHeld2 hK K
    try simp only [qA,qB,qC,Act.put,qD,qE,qF]
    refine tP (i:=9) (v:=?_) rfl ?_ ?_
    rotate_left
    ·(intro w hSw;(try dsimp only at hSw);go_simp;try with_reducible rfl)
    try simp only [qA,qB,qC,Act.put,qD,qE,qF]
    refine zn (by kernel_rfl) (NoPanic.normal ?_) _
    go_wp2
    go_meet
    exact⟨_,rfl,rfl,hD hq2,hD (by first | exact hlp4 | (have:=hlp4;omega)),hD hb2⟩
   refine AllT.cons (o:=_) rfl (fun K hK=>?_) ?_
   ·go_simp
    have hba:=za w4 (.cells #[.bool false,.bool false,.int .u32 0,.int .i64 0,.int .i64 0,.int .i64 0,.int .i64 0,.int .i64 0,.int .i64 0,.int .i64 0,.int .i64 0,.int .i64 0,.int .i64 0,.int .i64 0,.int .i64 0,.int .i64 0,.int .i64 0,.int .i64 0,.int .i64 0,.int .i64 0,.int .i64 0,.bool false,.bool false] 97)
    have hq0:=Box.new w4 97 #[.bool false,.bool false,.int .u32 0,.int .i64 0,.int .i64 0,.int .i64 0,.int .i64 0,.int .i64 0,.int .i64 0,.int .i64 0,.int .i64 0,.int .i64 0,.int .i64 0,.int .i64 0,.int .i64 0,.int .i64 0,.int .i64 0,.int .i64 0,.int .i64 0,.int .i64 0,.int .i64 0,.bool false,.bool false]
    have HC5:=HC.out.up hba
    have hD5:=HD.out.trans (hba.mono HD.out.size)
    refine hK.out _ _ (fun _=>?_) (fun hHeld2=>?_)
    ·exact HHd.out _ HC5
    replace hHeld:=hHeld2 (by decide)
    clear hHeld2 hK K
    try simp only [qA,qB,qC,Act.put,qD,qE,qF]
    obtain⟨w5,hw5⟩:∃ w5,w4.alloc (.cells #[.bool false,.bool false,.int .u32 0,.int .i64 0,.int .i64 0,.int .i64 0,.int .i64 0,.int .i64 0,.int .i64 0,.int .i64 0,.int .i64 0,.int .i64 0,.int .i64 0,.int .i64 0,.int .i64 0,.int .i64 0,.int .i64 0,.int .i64 0,.int .i64 0,.int .i64 0,.int .i64 0,.bool false,.bool false] 97)=w5:=⟨_,rfl⟩
    rw [hw5] at hq0 HC5 hD5 hHeld ⊢
    refine wT1 (i:=6) (by kernel_rfl) rfl fun K hK=>?_
    refine zp (vs:=#[.agg #[.slice A1 o.atoms.length c1,.slice A2 o.funs.length cf,.slice A3 o.preds.length cp,.slice A4 o.code.length cc],.int .i64 (n:Int)]) (by kernel_rfl) (enters_of Tryz.func31 (by kernel_rfl) rfl) _ rfl (by kernel_rfl) ?_
    refine(HONE.out w5 (HV.out.below HC5.below)).mono ?_
    rintro e1 w6 ⟨rfl,hb6⟩
    refine⟨_,rfl,?_⟩
    have HC6:=HC5.up hb6
    have hq:=hq0.below hb6 hq0.lt
    have hD6:=hD5.trans (hb6.mono hD5.size)
    refine hK.out _ _ (fun _=>?_) (fun hHeld2=>?_)
    ·exact HHd.out _ HC6
    replace hHeld:=hHeld2 (by decide)
    clear hHeld2 hK K
    try simp only [qA,qB,qC,Act.put,qD,qE,qF]
    refine wT1 (i:=8) (by kernel_rfl) rfl fun K hK=>?_
    rw [if_pos (by kernel_rfl)]
    refine wp_store_mid 97 (.tmp 13) (.tmp 77) rfl w4.heap.size 0 (pdC p).toArray rfl rfl (by rw [HPZ2.out];exact zr hq (by decide)) (by rw [HPZ2.out];exact zf1) HP1.out ?_
    have hq2:=zw (A:=(pdC p).toArray) hq (by rw [HPZ2.out];rfl)
    have hb2:=zg (pdC p).toArray.toList _ _ 0 hD6 HD.out.size
    refine hK.out _ _ (fun _=>?_) (fun hHeld2=>?_)
    ·exact HHd.out _ (HCn.out.up hb2)
    replace hHeld:=hHeld2 (by decide)
    clear hHeld2 hK K
    try simp only [qA,qB,qC,Act.put,qD,qE,qF]
    refine tP (i:=9) (v:=?_) rfl ?_ ?_
    rotate_left
    ·(intro w hSw;(try dsimp only at hSw);go_simp;try with_reducible rfl)
    try simp only [qA,qB,qC,Act.put,qD,qE,qF]
    refine zn (by kernel_rfl) (NoPanic.normal ?_) _
    go_wp2
    go_meet
    exact⟨_,rfl,rfl,hD hq2,hD (by first | exact hlp4 | (have:=hlp4;omega)),hD hb2⟩
   exact AllT.nil
 case rest=>
 obtain⟨gq,rfl,rfl,HQ,hlq,HBc⟩:=hcut
 have HC:=hD (HCn.out.up HBc.out)
 have HR:=hD (own_fr (S:=fun _=>False) HRn.out (Fr.of_below HBc.out) (fun _ _ x=>x))
 have HLQ:=hlq
 clear hlq q0 q1 q2 q3 HCn HRn HONE HBc
 clear hgs
 have p0:=HQ.out.cell 0
 have p1:=HQ.out.cell 1
 rw [List.getElem?_toArray,zx8] at p0
 rw [List.getElem?_toArray,zv16] at p1
 by_cases hhere:p.here=true
 case neg=>
  have hh:p.here=false:=by simpa using hhere
  rw [hh] at p0
  go_wp2
  (try simp only [Exit.inBlock,Exit.then])
  refine bodyPost_ret (zo1 rfl _ _ _) rfl ?_
  exact zo2 (HBADW.out (zy11 HGD.out (.inl hh))) rfl HC.out.below
 case pos=>
 rw [hhere] at p0
 by_cases hbad:p.bad=true
 case pos=>
  rw [hbad] at p1
  go_wp2
  (try simp only [Exit.inBlock,Exit.then])
  refine bodyPost_ret (zo1 rfl _ _ _) rfl ?_
  exact zo2 (HBADW.out (zy11 HGD.out (.inr hbad))) rfl HC.out.below
 case neg=>
 have hbf:p.bad=false:=by simpa using hbad
 rw [hbf] at p1
 have HHE:=hD hhere
 have HBF:=hD hbf
 clear hbad hhere hbf
 have how:0≤own∧own<(o.preds.length:Int):=by
  rw [← HOW.out]
  exact⟨HIn.out.2.1 n p HGE.out HHE.out,(own_lt o n).1⟩
 obtain⟨ix,hix⟩:∃ ix,o.code[n]=ix:=⟨_,rfl⟩
 have hik:=HK.out.ins o.code[n] (List.getElem_mem hnl)
 have HGI:Hid (o.code.getD n (0,0,0,0,0)=ix):=hD (by rw [List.getD_eq_getElem?_getD,List.getElem?_eq_getElem hnl,← hix];rfl)
 obtain⟨bc,of,rfl,hbc,d0,d1,d2,d3,d4⟩:=zm3 HV.out.code n hnl
 rw [hix] at hik d0 d1 d2 d3 d4
 clear hix
 obtain⟨op,a,b,c,d⟩:=ix
 simp only at d0 d1 d2 d3 d4
 have HSZ:=hD (zh HPW.out.ok)
 have HON:=hD (zu1 p.s)
 have HBS:=hD (fun w=>zn13 HPW.out.ok w)
 have HRQ:Hid (∀ W,Box W gq 97 (pdC p).toArray→W.rangeAt gq 2 (stA p.s).toList):=hD (fun W hW j v hj=>by
  rw [hW.cell,List.getElem?_toArray,pdC_s,← Array.getElem?_toList]
  exact hj)
 have HRA:=hD (HRQ.out wc HQ.out)
 obtain⟨v7,w7,hr7,HA7⟩:=app_stD HR.out (stA p.s).toList (by rw [Array.length_toList];exact HSZ.out) (fun u hu=>Array.all_eq_true_iff_forall_mem.1 HON.out u (by simpa using hu)) (by omega) HC.out.below.size 67
 rw [Array.toArray_toList] at hr7
 have HR7:=hD hr7
 clear hr7
 have HF7:Hid (Fr (fun k=>vs.ownBlock=some k) wc w7):=hD HA7.out.fr
 go_upto_region 22 with(fail)
 go_upto_region 23 with(refine zm zb2 zg1 rfl (.tmp 90) rfl gq 2 rfl (stA p.s) HRA.out HSZ.out ?_;refine zo4 (HBS.out wc) rfl _ rfl (by kernel_rfl) ?_;refine zv HR7.out rfl (.tmp 89) (.tmp 92) rfl (by kernel_rfl) (by kernel_rfl) ?_)
 have hbb7:=HC.out.below.trans (HA7.out.below HR.out HC.out.below.size)
 have HC7:Hid (CkD w g gp OBV P w7):=hD ⟨HC.out.ob.fr HF7.out (fun hx=>zb HR.out HC.out.ob (by decide) g hx rfl),HC.out.pl.fr HF7.out (fun hx=>zb HR.out HC.out.pl (by decide) gp hx rfl),hbb7,HC.out.l0⟩
 have HQ7:Hid (Box w7 gq 97 (pdC p).toArray):=hD (HQ.out.fr HF7.out (fun hx=>zb HR.out HQ.out (by decide) gq hx rfl))
 have HW7:Hid (w7.ownsRow w.heap.size 95 21 v7 (n+1) ((l ++ [p.s]).flatMap stSs)):=hD (by
  have h:=HA7.out.own
  rw [List.flatMap_append]
  simpa [stSs] using h)
 clear p0 p1 HRA HR7 HF7 HC HQ HR HA7 HBS HON
 have e0:=(hbb7.cell (p:=⟨bc,of+n * 5,none⟩) hbc).trans d0
 have e1:=(hbb7.cell (p:=⟨bc,of+n * 5+1,none⟩) hbc).trans d1
 have e2:=(hbb7.cell (p:=⟨bc,of+n * 5+2,none⟩) hbc).trans d2
 have e3:=(hbb7.cell (p:=⟨bc,of+n * 5+3,none⟩) hbc).trans d3
 have e4:=(hbb7.cell (p:=⟨bc,of+n * 5+4,none⟩) hbc).trans d4
 have q3:=HC7.out.ob.cell 3
 rw [HOV.out.2.2.2] at q3
 clear d0 d1 d2 d3 d4
 go_upto_region 24 with(fail)
 have hba:=za w7 (.cells #[.int .i64 op,.int .i64 a,.int .i64 b,.int .i64 c,.int .i64 d] 54)
 have HX:=hD (Box.new w7 54 #[.int .i64 op,.int .i64 a,.int .i64 b,.int .i64 c,.int .i64 d])
 have HC8:=hD (HC7.out.up hba)
 have HQ8:=hD (HQ7.out.below hba HQ7.out.lt)
 have HW8:=hD (own_fr (S:=fun _=>False) HW7.out (Fr.of_below hba) (fun _ _ x=>x))
 obtain⟨w8,hw8⟩:∃ w8,w7.alloc (.cells #[.int .i64 op,.int .i64 a,.int .i64 b,.int .i64 c,.int .i64 d] 54)=w8:=⟨_,rfl⟩
 obtain⟨gx,hgx⟩:∃ gx,w7.heap.size=gx:=⟨_,rfl⟩
 rw [hw8] at HX HC8 HQ8 HW8 ⊢
 rw [hgx] at HX ⊢
 clear hba hw8 hgx e0 e1 e2 e3 e4 q3 HC7 HQ7 HW7 hbb7
 have q0:=HC8.out.ob.cell 0
 have q1:=HC8.out.ob.cell 1
 have q2:=HC8.out.ob.cell 2
 have q3:=HC8.out.ob.cell 3
 rw [HOV.out.1] at q0
 rw [HOV.out.2.1] at q1
 rw [HOV.out.2.2.1] at q2
 rw [HOV.out.2.2.2] at q3
 have i0:=HX.out.cell 0
 have i1:=HX.out.cell 1
 have i2:=HX.out.cell 2
 have i3:=HX.out.cell 3
 have i4:=HX.out.cell 4
 obtain⟨okv,hokv⟩:∃ okv,asksV o (arityP o own) (op,a,b,c,d) p.s=okv:=⟨_,rfl⟩
 have HOK:=hD hokv
 have hstp:=fun W (h:ObAt W _ _ _ _ o)=>rstep_any HK.out hik own how HPW.out (va:=.slice A1 o.atoms.length c1) (vf:=.slice A2 o.funs.length cf) (vp:=.slice A3 o.preds.length cp) (vc:=.slice (some ⟨bc,of,none⟩) o.code.length cc) W h
 unfold StepD at hstp
 rw [hokv] at hstp
 have HSTP:=hD hstp
 clear hstp hokv
 have HRQ8:=hD (HRQ.out w8 HQ8.out)
 go_upto_region 25 with(first | (refine zm zb2 zg1 rfl (.tmp 103) rfl gq 2 rfl (stA p.s) HRQ8.out HSZ.out ?_) | (go_at_call 32;refine(HSTP.out _ (HV.out.below HC8.out.below)).mono ?_;rintro e w9 ⟨S,hSO,rfl,hmk,hb9⟩;have HSO:=hD hSO;have HMK:=hD hmk;have HC9:=hD (HC8.out.up hb9);have HX9:=hD (HX.out.below hb9 HX.out.lt);have HW9:=hD (own_fr (S:=fun _=>False) HW8.out (Fr.of_below hb9) (fun _ _ x=>x));have HSS:=hD (zh hSO);have HS1:=hD (zu1 S);clear hSO hmk hb9) | (refine ze zg1 rfl (.tmp 16) (.tmp 106) rfl w9.heap.size 0 (stA S) rfl rfl (zr (Box.new w9 95 #[.int .u32 0,.int .i64 0,.int .i64 0,.int .i64 0,.int .i64 0,.int .i64 0,.int .i64 0,.int .i64 0,.int .i64 0,.int .i64 0,.int .i64 0,.int .i64 0,.int .i64 0,.int .i64 0,.int .i64 0,.int .i64 0,.int .i64 0,.int .i64 0,.int .i64 0,.bool false,.bool false]) (by decide)) HSS.out HS1.out ?_))
 have hbs:=zg (stA S).toList w9 _ 0 (za w9 (.cells #[.int .u32 0,.int .i64 0,.int .i64 0,.int .i64 0,.int .i64 0,.int .i64 0,.int .i64 0,.int .i64 0,.int .i64 0,.int .i64 0,.int .i64 0,.int .i64 0,.int .i64 0,.int .i64 0,.int .i64 0,.int .i64 0,.int .i64 0,.int .i64 0,.int .i64 0,.bool false,.bool false] 95)) (Nat.le_refl w9.heap.size)
 have hsb:=zw (A:=stA S) (Box.new w9 95 #[.int .u32 0,.int .i64 0,.int .i64 0,.int .i64 0,.int .i64 0,.int .i64 0,.int .i64 0,.int .i64 0,.int .i64 0,.int .i64 0,.int .i64 0,.int .i64 0,.int .i64 0,.int .i64 0,.int .i64 0,.int .i64 0,.int .i64 0,.int .i64 0,.int .i64 0,.bool false,.bool false]) (by rw [HSS.out];rfl)
 have hxb:=HX9.out.below hbs HX9.out.lt
 have hck:=HC9.out.up hbs
 have hst:=own_fr (S:=fun _=>False) HW9.out (Fr.of_below hbs) (fun _ _ x=>x)
 obtain⟨wD,hwD⟩:∃ wD,(w9.alloc (.cells #[.int .u32 0,.int .i64 0,.int .i64 0,.int .i64 0,.int .i64 0,.int .i64 0,.int .i64 0,.int .i64 0,.int .i64 0,.int .i64 0,.int .i64 0,.int .i64 0,.int .i64 0,.int .i64 0,.int .i64 0,.int .i64 0,.int .i64 0,.int .i64 0,.int .i64 0,.bool false,.bool false] 95)).setCells w9.heap.size 0 (stA S).toList=wD:=⟨_,rfl⟩
 obtain⟨gs,hgs⟩:∃ gs,w9.heap.size=gs:=⟨_,rfl⟩
 rw [hwD] at hsb hxb hck hst ⊢
 rw [hgs] at hsb ⊢
 have HD:Hid (RnD w g gp gx gs OBV P #[.int .i64 op,.int .i64 a,.int .i64 b,.int .i64 c,.int .i64 d] S v7 (n+1) ((l ++ [p.s]).flatMap stSs) wD):=hD ⟨hck,hst,hxb,hsb⟩
 clear hbs hsb hxb hck hst hwD hgs HC8 HQ8 HX HW8 HC9 HX9 HW9 HRQ8 HSTP q0 q1 q2 q3 i0 i1 i2 i3 i4
 obtain⟨bb,hbb⟩:∃ bb,onV op=bb:=⟨_,rfl⟩
 have HBB:=hD hbb
 have HON:Hid (∀ w,Calls Tryz.prog 33 #[.int .i64 op] w fun e w'=>e=.returned (.bool bb)∧w=w'):=hD (fun w=>by have h:=zd3 op w;rw [hbb] at h;exact h)
 clear hbb
 obtain⟨ow1,how1⟩:∃ ow1,ownV o ((n:Int)+1)=ow1:=⟨_,rfl⟩
 have HOW1:=hD how1
 have hon1:=fun W (h:ObAt W _ _ _ _ o)=>zi13 (o:=o) (by omega) ((n:Int)+1) (va:=.slice A1 o.atoms.length c1) (vf:=.slice A2 o.funs.length cf) (vp:=.slice A3 o.preds.length cp) (vc:=.slice (some ⟨bc,of,none⟩) o.code.length cc) W h
 rw [how1] at hon1
 have HON1:=hD hon1
 clear hon1 how1
 obtain⟨tb,htb⟩:∃ tb,(!okv || (bb && (decide ((o.code.length:Int)≤(n:Int)+1) || decide (ow1≠own))))=tb:=⟨_,rfl⟩
 have HTB:=hD htb
 clear htb
 have q0:=HD.out.ck.ob.cell 0
 have q1:=HD.out.ck.ob.cell 1
 have q2:=HD.out.ck.ob.cell 2
 have q3:=HD.out.ck.ob.cell 3
 rw [HOV.out.1] at q0
 rw [HOV.out.2.1] at q1
 rw [HOV.out.2.2.1] at q2
 rw [HOV.out.2.2.2] at q3
 have i0:=HD.out.xb.cell 0
 have e7:IntKind.i64.wrap ((n:Int)+1)=(n:Int)+1:=IntWalk.i64_in _ (by omega)
 go_cut [128] (fun t wd=>t=.bool tb∧Hid (RnD w g gp gx gs OBV P #[.int .i64 op,.int .i64 a,.int .i64 b,.int .i64 c,.int .i64 d] S v7 (n+1) ((l ++ [p.s]).flatMap stSs) wd))
 case first=>
  as_aux_lemma=>
   cases okv with
   | false=>
    obtain rfl:true=tb:=HTB.out
    go_wp2
    go_meet
    exact⟨rfl,HD⟩
   | true=>
    cases bb with
    | false=>
     obtain rfl:false=tb:=HTB.out
     go_wp2_with ((go_at_call 33;refine(HON.out _).mono ?_;rintro e1 w5 ⟨rfl,rfl⟩))
     go_meet
     exact⟨rfl,HD⟩
    | true=>
     by_cases hl1:(n:Int)+1<(o.code.length:Int)
     ·by_cases ho1:ow1=own
      ·have htf:false=tb:=by rw [← HTB.out,decide_eq_false (show ¬ ((o.code.length:Int)≤(n:Int)+1) by omega),decide_eq_false (show ¬ (ow1≠own) from fun h=>h ho1)];rfl
       subst htf
       have hne:(ow1 != own)=false:=by rw [bne_eq_false_iff_eq];exact ho1
       have hge:¬ ((o.code.length:Int)≤(n:Int)+1):=by omega
       go_wp2_with (first | (go_at_call 33;refine(HON.out _).mono ?_;rintro e1 w5 ⟨rfl,rfl⟩) | (go_at_call 31;refine(HON1.out _ (HV.out.below HD.out.ck.below)).mono ?_;rintro e w5 ⟨rfl,hb5⟩;have HD:=hD (HD.out.up hb5);clear hb5))
       go_meet
       exact⟨by first | rfl | (rw [decide_eq_false (show ¬ ((o.code.length:Int)≤(n:Int)+1) by omega)]) | (rw [decide_eq_true (show(o.code.length:Int)≤(n:Int)+1 by omega)]),HD⟩
      ·have htf:true=tb:=by rw [← HTB.out,decide_eq_true (show ow1≠own from ho1),Bool.or_true];rfl
       subst htf
       have hne:(ow1 != own)=true:=bne_iff_ne.2 ho1
       have hge:¬ ((o.code.length:Int)≤(n:Int)+1):=by omega
       go_wp2_with (first | (go_at_call 33;refine(HON.out _).mono ?_;rintro e1 w5 ⟨rfl,rfl⟩) | (go_at_call 31;refine(HON1.out _ (HV.out.below HD.out.ck.below)).mono ?_;rintro e w5 ⟨rfl,hb5⟩;have HD:=hD (HD.out.up hb5);clear hb5))
       go_meet
       exact⟨by first | rfl | (rw [decide_eq_false (show ¬ ((o.code.length:Int)≤(n:Int)+1) by omega)]) | (rw [decide_eq_true (show(o.code.length:Int)≤(n:Int)+1 by omega)]),HD⟩
     ·have hge:(o.code.length:Int)≤(n:Int)+1:=by omega
      have htf:true=tb:=by rw [← HTB.out,decide_eq_true hge,Bool.true_or];rfl
      subst htf
      go_wp2_with ((go_at_call 33;refine(HON.out _).mono ?_;rintro e1 w5 ⟨rfl,rfl⟩))
      go_meet
      exact⟨by first | rfl | (rw [decide_eq_false (show ¬ ((o.code.length:Int)≤(n:Int)+1) by omega)]) | (rw [decide_eq_true (show(o.code.length:Int)≤(n:Int)+1 by omega)]),HD⟩
 case rest=>
 obtain⟨rfl,HDc⟩:=hcut
 clear HD q0 q1 q2 q3 i0
 have HD:=HDc
 clear HDc
 obtain⟨WW,hWW⟩:∃ WW,WW=wc:=⟨_,rfl⟩
 subst hWW
 cases tb with
 | true=>
  have hbadp:passV o (arityP o own) (stopV o n) n P=none:=by
   by_cases hok:okv=true
   ·subst hok
    have h2:=HTB.out
    have hbt:bb=true:=by cases bb with | true=>rfl | false=>cases h2
    subst hbt
    refine zr7 HGI.out (lead_on hnl ?_ HBB.out)
    rintro⟨hx1,hx2⟩
    rw [HOW1.out,HOW.out] at hx2
    rw [decide_eq_false (show ¬ ((o.code.length:Int)≤(n:Int)+1) by omega),decide_eq_false (show ¬ (ow1≠own) from fun h=>h hx2)] at h2
    cases h2
   ·exact zn20 HGD.out HGI.out (by rw [HOK.out];simpa using hok)
  go_wp2
  (try simp only [Exit.inBlock,Exit.then])
  refine bodyPost_ret (zo1 rfl _ _ _) rfl ?_
  exact zo2 (HBADW.out (hbadp)) rfl HD.out.ck.below
 | false=>
 have hokt:okv=true:=by cases okv with | true=>rfl | false=>have h:=HTB.out;cases h
 subst hokt
 have HSM:=hD (HMK.out rfl)
 have HSW:Hid (StW S):=hD (by rw [HSM.out];exact StW.makes HK.out hik HOK.out HPW.out)
 have HNX:Hid (bb=true→(n:Int)+1<(o.code.length:Int)∧ow1=own):=hD (fun hbt=>by
  subst hbt
  have h2:=HTB.out
  by_cases hx1:(o.code.length:Int)≤(n:Int)+1
  ·rw [decide_eq_true hx1] at h2
   cases h2
  ·by_cases hx2:ow1=own
   ·exact⟨by omega,hx2⟩
   ·rw [decide_eq_true (show ow1≠own from hx2),Bool.or_true] at h2
    cases h2)
 obtain⟨P1,hP1⟩:∃ P1,(if bb=true then bringV P ((n:Int)+1) S else P)=P1:=⟨_,rfl⟩
 have HP1E:=hD hP1
 clear hP1
 clear HTB HMK
 have i0:=HD.out.xb.cell 0
 go_upto_if 132 with((go_at_call 33;refine(HON.out _).mono ?_;rintro e1 w5 ⟨rfl,rfl⟩))
 go_cut [] (fun wd=>Hid (RnD w g gp gx gs OBV P1 #[.int .i64 op,.int .i64 a,.int .i64 b,.int .i64 c,.int .i64 d] S v7 (n+1) ((l ++ [p.s]).flatMap stSs) wd))
 case first=>
  as_aux_lemma=>
   cases bb with
   | false=>
    obtain rfl:P=P1:=HP1E.out
    go_wp2
    go_meet
    exact HD
   | true=>
    obtain⟨hx1,hx2⟩:=HNX.out rfl
    have hP1:bringV P ((n+1:Nat):Int) S=P1:=by
     have h:=HP1E.out
     rw [if_pos rfl] at h
     rw [show((n+1:Nat):Int)=(n:Int)+1 by omega]
     exact h
    have htl:n+1<P.length:=by omega
    rw [zj9 htl S] at hP1
    obtain⟨r,hr⟩:∃ r,P[n+1]=r:=⟨_,rfl⟩
    rw [hr] at hP1
    have HRW:=hD (HIn.out.1 r (by rw [← hr];exact List.getElem_mem htl))
    have HRR:Hid (∀ W,CkD w g gp OBV P W→W.rangeAt gp ((n+1) * 23) (pdC r)):=hD (fun W h=>by rw [← hr];exact za10 (n:=n+1) h.pl HIn.out.1.ok htl)
    have HTH:Hid (∀ W,CkD w g gp OBV P W→W.there gp ((n+1) * 23) 23):=hD (fun W h=>zz9 (n:=n+1) h.pl HIn.out.1.ok htl)
    have hcq:StOk (comeV r S).s:=(HRW.out.come HSW.out).ok
    have HCZ:Hid ((pdC (comeV r S)).toArray.size=23):=hD (by rw [List.size_toArray];exact za2 hcq)
    have HRZ:Hid ((pdC r).toArray.size=23):=hD (by rw [List.size_toArray];exact za2 HRW.out.ok)
    have HPT:Hid (∀ W,RnD w g gp gx gs OBV P #[.int .i64 op,.int .i64 a,.int .i64 b,.int .i64 c,.int .i64 d] S v7 (n+1) ((l ++ [p.s]).flatMap stSs) W→RnD w g gp gx gs OBV P1 #[.int .i64 op,.int .i64 a,.int .i64 b,.int .i64 c,.int .i64 d] S v7 (n+1) ((l ++ [p.s]).flatMap stSs) (W.setCells gp ((n+1) * 23) (pdC (comeV r S)))):=hD (fun W h=>by rw [← hP1];exact h.put (n:=n+1) HIn.out.1.ok htl hcq)
    have k0:(0:Int)≤(n:Int)+1:=by omega
    have k1:=hx1
    clear hP1 hx2
    go_upto_region 28 with(fail)
    refine wp_region_noPanic ?_
    refine zt 11 (fun w'=>w'.rangeAt gp ((n+1) * 23) (pdC r).toArray.toList∧w'.rangeAt gs 0 (stA S).toList) (by kernel_rfl) ?_ (fun hHeld=>?_)
    ·exact⟨HRR.out _ (HD.out.drewN 1).ck,zj (HD.out.drewN 1).sb⟩
    change wpAnyT _ _ _ _ _ _ _ _ _ WW.drew
    replace hHeld:WW.drew.rangeAt gp ((n+1) * 23) (pdC r).toArray.toList∧WW.drew.rangeAt gs 0 (stA S).toList:=hHeld
    have HD:=hD (HD.out.drewN 1)
    change Hid (RnD w g gp gx gs OBV P #[.int .i64 op,.int .i64 a,.int .i64 b,.int .i64 c,.int .i64 d] S v7 (n+1) ((l ++ [p.s]).flatMap stSs) WW.drew) at HD
    generalize WW.drew=W5 at HD hHeld ⊢
    have st:Stp [0,1,2,3,4,5,6]:=trivial
    iterate 7
     refine tPL st (v:=?_) rfl ?_ ?_
     rotate_left
     ·(intro w hSw;(try dsimp only at hSw);go_simp;try with_reducible rfl)
     replace st:=st.tl
     try simp only [qA,qB,qC,Act.put,qD,qE,qF]
    refine tkS (i:=7) (v:=.agg (pdC r).toArray) rfl (fun _ _ _ h=>h) (zl1 zq2 zf1 (by kernel_rfl) (.tmp 139) rfl gp ((n+1) * 23) rfl (pdC r).toArray HRZ.out (fun w hSw=>hSw.1)) hHeld ?_
    try simp only [qA,qB,qC,Act.put,qD,qE,qF]
    refine tkS (i:=8) (v:=.agg (stA S)) rfl (fun _ _ _ h=>h) (zl1 zb2 zg1 (by kernel_rfl) (.tmp 16) rfl gs (0) rfl (stA S) HSS.out (fun w hSw=>hSw.2)) hHeld ?_
    try simp only [qA,qB,qC,Act.put,qD,qE,qF]
    refine wT1 (i:=9) (by kernel_rfl) rfl fun K hK=>?_
    refine zp (vs:=#[.agg (pdC r).toArray,.agg (stA S)]) (by kernel_rfl) (enters_of Tryz.func34 (by kernel_rfl) rfl) _ rfl (by kernel_rfl) ?_
    refine(zg10 HRW.out.ok HSO.out W5).mono ?_
    rintro e1 w4 ⟨rfl,hb4⟩
    refine⟨_,rfl,?_⟩
    have HD:=hD (HD.out.up hb4)
    refine hK.out _ _ (fun _=>?_) (fun hHeld2=>?_)
    ·exact⟨HRR.out _ HD.out.ck,zj HD.out.sb⟩
    replace hHeld:=hHeld2 (by decide)
    clear hHeld2 hK K
    try simp only [qA,qB,qC,Act.put,qD,qE,qF]
    refine tP (i:=10) (v:=?_) rfl ?_ ?_
    rotate_left
    ·(intro w hSw;(try dsimp only at hSw);go_simp;try with_reducible rfl)
    try simp only [qA,qB,qC,Act.put,qD,qE,qF]
    refine wT1 (i:=11) (by kernel_rfl) rfl fun K hK=>?_
    rw [if_pos (by kernel_rfl)]
    refine wp_store_mid 97 (.tmp 143) (.tmp 142) rfl gp ((n+1) * 23) (pdC (comeV r S)).toArray rfl rfl (by rw [HCZ.out];exact HTH.out _ HD.out.ck) (by rw [HCZ.out];exact zf1) (zt4 _) ?_
    refine hK.out _ _ (fun h=>absurd h (by decide)) (fun _=>?_)
    clear hK K
    try simp only [qA,qB,qC,Act.put,qD,qE,qF]
    refine zn (by kernel_rfl) (NoPanic.normal ?_) _
    have HD2:=hD (HPT.out _ HD.out)
    go_wp2
    go_meet
    exact HD2
 case rest=>
 have HDc:=hcut
 clear HD i0
 have HD:=HDc
 clear HDc
 obtain⟨W2,hW2⟩:∃ W2,W2=wc:=⟨_,rfl⟩
 subst hW2
 as_aux_lemma=>
  have HP1W:Hid (PlW P1∧InCode o P1∧P1.length=o.code.length):=hD (by
   rw [← HP1E.out]
   by_cases hbt:bb=true
   ·rw [if_pos hbt]
    obtain⟨hx1,hx2⟩:=HNX.out hbt
    exact⟨HIn.out.1.bring _ HSW.out,HIn.out.2.1.bring (by omega) (by rw [HOW1.out,hx2];exact how.1) _,by rw [zw1];exact HIn.out.2.2.1⟩
   ·rw [if_neg hbt]
    exact⟨HIn.out.1,HIn.out.2.1,HIn.out.2.2.1⟩)
  obtain⟨ownk,hownk⟩:∃ ownk:Nat,own=(ownk:Int):=⟨own.toNat,by omega⟩
  subst hownk
  have hokl:ownk<o.preds.length:=by omega
  obtain⟨arn,harn⟩:∃ arn:Nat,o.preds[ownk].2.1=(arn:Int):=⟨o.preds[ownk].2.1.toNat,by have:=HK.out.pred o.preds[ownk] (List.getElem_mem hokl);omega⟩
  have hare:arn≤8:=by have:=HK.out.pred o.preds[ownk] (List.getElem_mem hokl);omega
  have HARP:Hid (arityP o (ownk:Int)=(arn:Int)):=hD (by
   unfold arityP
   rw [Int.toNat_natCast,List.getD_eq_getElem?_getD,List.getElem?_eq_getElem hokl]
   exact harn)
  obtain⟨bq,oq,rfl,hbq,_,hc1,_⟩:=zd1 HV.out.preds ownk hokl
  rw [harn] at hc1
  have HCA:Hid (∀ W,Below w.heap.size w W→W.cell? ⟨bq,oq+ownk * 3+1,none⟩=some (.int .i64 (arn:Int))):=hD (fun W h=>(h.cell (p:=⟨bq,oq+ownk * 3+1,none⟩) hbq).trans hc1)
  clear hc1 harn hbq
  obtain⟨PJ,hPJ⟩:∃ PJ:Nat→List VPl,∀ j,PJ j=(labK (op,a,b,c,d) j).foldl (fun Q t=>bringV Q t (if op=26 then S else stOther arn)) P1:=⟨fun j=>_,fun _=>rfl⟩
  have HJ0:Hid (PJ 0=P1):=hD (by rw [hPJ];rfl)
  obtain⟨ag,hag⟩:∃ ag:Nat→Int,∀ j,ag j=(argOf (op,a,b,c,d)).getD j 0:=⟨fun j=>_,fun _=>rfl⟩
  obtain⟨kd,hkd⟩:∃ kd:Nat→Int,∀ j,kd j=(opsOf op).getD j 0:=⟨fun j=>_,fun _=>rfl⟩
  have HAG:Hid (ag 0=a∧ag 1=b∧ag 2=c∧ag 3=d):=hD ⟨hag 0,hag 1,hag 2,hag 3⟩
  have HJN:Hid (∀ j,¬ (kd j=8∧ag j≠65535)→PJ (j+1)=PJ j∧labK (op,a,b,c,d) (j+1)=labK (op,a,b,c,d) j):=hD (fun j h=>by
   have e:=zm16 (i:=(op,a,b,c,d)) (k:=j) (by rw [← hag];simp only;rw [← hkd];exact h)
   exact⟨by rw [hPJ,hPJ,e],e⟩)
  have HJY:Hid (∀ j,kd j=8→ag j≠65535→PJ (j+1)=bringV (PJ j) (ag j) (if op=26 then S else stOther arn)∧labK (op,a,b,c,d) (j+1)=labK (op,a,b,c,d) j ++ [ag j]):=hD (fun j h1 h2=>by
   have e:=zy12 (i:=(op,a,b,c,d)) (k:=j) (by simp only;rw [← hkd];exact h1) (by rw [← hag];exact h2)
   rw [← hag] at e
   exact⟨by rw [hPJ,hPJ,e,List.foldl_append];rfl,e⟩)
  have HLM:Hid (∀ j,j<(opsOf op).length→kd j=8→ag j≠65535→ag j ∈ labsV (op,a,b,c,d)∧0≤ag j∧ag j<(o.code.length:Int)):=hD (fun j hj h1 h2=>by
   have hm:=lab_mem (i:=(op,a,b,c,d)) hj (by simp only;rw [← hkd];exact h1) (by rw [← hag];exact h2)
   rw [← hag] at hm
   exact⟨hm,hik.la _ hm⟩)
  have HJW:Hid (∀ j,(∀ t ∈ labK (op,a,b,c,d) j,(n:Int)<t∧ownV o t=(ownk:Int))→PlW (PJ j)∧InCode o (PJ j)∧(PJ j).length=o.code.length):=hD (fun j hj=>by
   rw [hPJ]
   exact zl11 (by split;exact HSW.out;exact StW.other arn hare) (labK (op,a,b,c,d) j) P1 (fun t ht=>by have:=hj t ht;exact⟨by omega,by rw [this.2];omega⟩) HP1W.out)
  have HPD:Hid (∀ j,j=(opsOf op).length→PJ j=(labsV (op,a,b,c,d)).foldl (fun Q t=>bringV Q t (if op=26 then S else stOther arn)) P1∧labK (op,a,b,c,d) j=labsV (op,a,b,c,d)):=hD (fun j hj=>by subst hj;exact⟨by rw [hPJ];rfl,rfl⟩)
  have hol:=zx9 op
  have HKC:Hid (∀ j,j<(opsOf op).length→((opsOf op).map (Value.int .i64))[j]?=some (.int .i64 (kd j))):=hD (fun j hj=>by
   rw [List.getElem?_map,List.getElem?_eq_getElem hj,hkd,List.getD_eq_getElem?_getD,List.getElem?_eq_getElem hj]
   rfl)
  clear hPJ hag hkd
  have i0:=HD.out.xb.cell 0
  go_upto_region 30 with(go_at_call 17;refine(roperE op _).mono ?_;rintro e w5 ⟨AO,cO,rfl,hco,hb5⟩;have HCO:=hD hco;have HD:=hD (HD.out.up hb5);clear hco hb5)
  clear i0
  rw [← HJ0.out] at HD
  go_wp2
  go_loopw [19,20] (fun i _ wr=>∃ j:Nat,j≤(opsOf op).length∧i=.int .i64 j∧Hid (RnD w g gp gx gs OBV (PJ j) #[.int .i64 op,.int .i64 a,.int .i64 b,.int .i64 c,.int .i64 d] S v7 (n+1) ((l ++ [p.s]).flatMap stSs) wr)∧Hid (OpsAtD wr AO (opsOf op))∧Hid (∀ t ∈ labK (op,a,b,c,d) j,(n:Int)<t∧ownV o t=(ownk:Int))) (fun i _ _=>(opsOf op).length - (intOf i).toNat)
  case atStart=>exact⟨0,by omega,rfl,HD,HCO,hD (fun t ht=>by cases ht)⟩
  obtain⟨j,hj,rfl,HDj,HCOj,HLJ⟩:=hrel
  clear HD HCO
  have HD:=HDj
  have HCO:=HCOj
  clear HDj HCOj
  by_cases hjl:j<(opsOf op).length
  case neg=>
   obtain rfl:j=(opsOf op).length:=by omega
   obtain⟨hpj,hlj⟩:=HPD.out _ rfl
   have hlab:∀ t ∈ labsV (op,a,b,c,d),(n:Int)<t∧t<(o.code.length:Int)∧ownV o t=ownV o n:=fun t ht=>by
    rw [← hlj] at ht
    have h1:=HLJ.out t ht
    rw [HOW.out]
    exact⟨h1.1,(hik.la t (by rw [← hlj];exact ht)).2,h1.2⟩
   have hlead:leadsV (stopV o n) n (op,a,b,c,d)=true:=lead_yes (fun hb=>by
    have:=HNX.out (by rw [← HBB.out];exact hb)
    rw [HOW1.out,HOW.out]
    exact⟨this.1,this.2⟩) hlab
   have hps:=pass_some HGD.out HGI.out HHE.out HBF.out HOK.out hlead
   have HWN:Hid (walkV o (o.code.length - (n+1)) (n+1) (PJ (opsOf op).length) (l ++ [p.s])=walkV o o.code.length 0 (startV o) []):=hD (by
    rw [← HWn.out,show o.code.length - n=(o.code.length - (n+1))+1 by omega,walk_next (by rw [HOW.out];exact hps),HGD.out]
    congr 1
    rw [hpj,← HP1E.out,← HBB.out,HSM.out,HARP.out,Int.toNat_natCast])
   have hjw:=HJW.out _ HLJ.out
   have HIN:Hid (PlW (PJ (opsOf op).length)∧InCode o (PJ (opsOf op).length)∧(PJ (opsOf op).length).length=o.code.length∧(l ++ [p.s]).length=n+1):=hD ⟨hjw.1,hjw.2.1,hjw.2.2,by rw [List.length_append,HIn.out.2.2.2];rfl⟩
   clear hpj hlj hlab hlead hps hjw
   go_wp2
   go_roundw
   case rel=>exact⟨n+1,_,_,_,by omega,by go_num,rfl,hD HD.out.ck,hD HD.out.st,HIN,HWN⟩
   case measure=>simp [intOf];omega
  case pos=>
  have j0:(0:Int)≤(j:Int):=by omega
  have j1:(j:Int)<((opsOf op).length:Int):=by omega
  have j2:(j:Int)<4:=by omega
  have ia:wr.cell? ⟨gx,1+j,none⟩=some (.int .i64 (ag j)):=by
   obtain⟨g0,g1,g2,g3⟩:=HAG.out
   have:j=0 ∨ j=1 ∨ j=2 ∨ j=3:=by omega
   rcases this with rfl | rfl | rfl | rfl
   ·rw [g0];exact HD.out.xb.cell 1
   ·rw [g1];exact HD.out.xb.cell 2
   ·rw [g2];exact HD.out.xb.cell 3
   ·rw [g3];exact HD.out.xb.cell 4
  obtain⟨bO,oO,hAO,hcO⟩:=HCO.out.at_ (by omega)
  subst hAO
  have kc:=hcO j _ (HKC.out j hjl)
  clear hcO
  by_cases hlb:kd j=8∧ag j≠65535
  case neg=>
   obtain⟨hn1,hn2⟩:=HJN.out j hlb
   have HN1:=hD hn1
   have HLJ2:Hid (∀ t ∈ labK (op,a,b,c,d) (j+1),(n:Int)<t∧ownV o t=(ownk:Int)):=hD (by rw [hn2];exact HLJ.out)
   clear hn1 hn2
   by_cases hk8:kd j=8
   ·have ha:ag j=65535:=Classical.byContradiction fun h=>hlb ⟨hk8,h⟩
    rw [hk8] at kc
    rw [ha] at ia
    go_wp2
    go_roundw
    case rel=>exact⟨j+1,by omega,by go_num,by rw [HN1.out];exact HD,HCO,HLJ2⟩
    case measure=>simp [intOf];omega
   ·have hk8':(kd j != 8)=true:=bne_iff_ne.2 hk8
    go_wp2
    go_roundw
    case rel=>exact⟨j+1,by omega,by go_num,by rw [HN1.out];exact HD,HCO,HLJ2⟩
    case measure=>simp [intOf];omega
  case pos=>
  obtain⟨hk8,hne⟩:=hlb
  obtain⟨hlm,ht0,ht1⟩:=HLM.out j hjl hk8 hne
  obtain⟨hy1,hy2⟩:=HJY.out j hk8 hne
  have hne':(ag j == 65535)=false:=beq_eq_false_iff_ne.2 hne
  rw [hk8] at kc
  obtain⟨t,ht⟩:∃ t:Nat,ag j=(t:Int):=⟨(ag j).toNat,by omega⟩
  rw [ht] at hlm ht0 ht1 hy1 hy2 hne' ia
  clear hne ht hk8
  have hjw:=HJW.out j HLJ.out
  have htl:t<(PJ j).length:=by rw [hjw.2.2];omega
  rw [zj9 htl] at hy1
  obtain⟨r,hr⟩:∃ r,(PJ j)[t]=r:=⟨_,rfl⟩
  rw [hr] at hy1
  have HRW:=hD (hjw.1 r (by rw [← hr];exact List.getElem_mem htl))
  have HRR:Hid (∀ W,CkD w g gp OBV (PJ j) W→W.rangeAt gp (t * 23) (pdC r)):=hD (fun W h=>by rw [← hr];exact za10 (n:=t) h.pl hjw.1.ok htl)
  have HTH:Hid (∀ W,CkD w g gp OBV (PJ j) W→W.there gp (t * 23) 23):=hD (fun W h=>zz9 (n:=t) h.pl hjw.1.ok htl)
  have HRZ:Hid ((pdC r).toArray.size=23):=hD (by rw [List.size_toArray];exact za2 HRW.out.ok)
  have HPUT:Hid (∀ W,RnD w g gp gx gs OBV (PJ j) #[.int .i64 op,.int .i64 a,.int .i64 b,.int .i64 c,.int .i64 d] S v7 (n+1) ((l ++ [p.s]).flatMap stSs) W→∀ (q:VPl),StOk q.s→RnD w g gp gx gs OBV ((PJ j).set t q) #[.int .i64 op,.int .i64 a,.int .i64 b,.int .i64 c,.int .i64 d] S v7 (n+1) ((l ++ [p.s]).flatMap stSs) (W.setCells gp (t * 23) (pdC q))):=hD (fun W h q hq=>h.put (n:=t) hjw.1.ok htl hq)
  have HLN:Hid ((PJ j).length=o.code.length):=hD hjw.2.2
  obtain⟨owt,howt⟩:∃ owt,ownV o (t:Int)=owt:=⟨_,rfl⟩
  have hont:=fun W (h:ObAt W _ _ _ _ o)=>zi13 (o:=o) (by omega) (t:Int) (va:=.slice A1 o.atoms.length c1) (vf:=.slice A2 o.funs.length cf) (vp:=.slice (some ⟨bq,oq,none⟩) o.preds.length cp) (vc:=.slice (some ⟨bc,of,none⟩) o.code.length cc) W h
  rw [howt] at hont
  have HONT:=hD hont
  have HOWT:=hD howt
  have HY1:=hD hy1
  have HY2:=hD hy2
  have HLMM:=hD hlm
  clear hont howt hy1 hy2 hlm hjw hr
  have q0:=HD.out.ck.ob.cell 0
  have q1:=HD.out.ck.ob.cell 1
  have q2:=HD.out.ck.ob.cell 2
  have q3:=HD.out.ck.ob.cell 3
  rw [HOV.out.1] at q0
  rw [HOV.out.2.1] at q1
  rw [HOV.out.2.2.1] at q2
  rw [HOV.out.2.2.2] at q3
  have ARM:=True.intro
  clear ARM
  by_cases htn:(n:Int)<(t:Int)
  case neg=>
   have hle:(t:Int)≤(n:Int):=by omega
   go_wp2
   (try simp only [Exit.inBlock,Exit.then])
   refine bodyPost_ret (zo1 rfl _ _ _) rfl ?_
   exact zo2 (HBADW.out (zr7 HGI.out (zi18 HLMM.out ht1 (fun h=>absurd h.1 (by omega))))) rfl HD.out.ck.below
  case pos=>
  have hle:¬ ((t:Int)≤(n:Int)):=by omega
  by_cases hot:owt=(ownk:Int)
  case neg=>
   have hne2:(owt != (ownk:Int))=true:=bne_iff_ne.2 hot
   go_wp2_with (go_at_call 31;refine(HONT.out _ (HV.out.below HD.out.ck.below)).mono ?_;rintro e w5 ⟨rfl,hb5⟩;have HD:=hD (HD.out.up hb5);clear hb5)
   (try simp only [Exit.inBlock,Exit.then])
   refine bodyPost_ret (zo1 rfl _ _ _) rfl ?_
   exact zo2 (HBADW.out (zr7 HGI.out (zi18 HLMM.out ht1 (fun h=>hot (by rw [← HOWT.out,h.2,HOW.out]))))) rfl HD.out.ck.below
  case pos=>
  have hne2:(owt != (ownk:Int))=false:=by rw [bne_eq_false_iff_eq];exact hot
  have HLJ2:Hid (∀ u ∈ labK (op,a,b,c,d) (j+1),(n:Int)<u∧ownV o u=(ownk:Int)):=hD (fun u hu=>by
   rw [HY2.out,List.mem_append,List.mem_singleton] at hu
   rcases hu with hu | rfl
   ·exact HLJ.out u hu
   ·exact⟨htn,by rw [HOWT.out];exact hot⟩)
  go_upto_region 37 with(go_at_call 31;refine(HONT.out _ (HV.out.below HD.out.ck.below)).mono ?_;rintro e w5 ⟨rfl,hb5⟩;have HD:=hD (HD.out.up hb5);have HCO:=hD (HCO.out.up hb5);clear hb5)
  clear q0 q1 q2 q3 ia kc
  have i0:=HD.out.xb.cell 0
  have q2:=HD.out.ck.ob.cell 2
  rw [HOV.out.2.2.1] at q2
  obtain⟨WW,hWW⟩:∃ WW,WW=w5:=⟨_,rfl⟩
  subst hWW
  have k0:=ht0
  have k1:=ht1
  by_cases h26:op=26
  ·subst h26
   have HY1:Hid (PJ (j+1)=(PJ j).set t (comeV r S)):=hD HY1.out
   have hcq:StOk (comeV r S).s:=(HRW.out.come HSW.out).ok
   have HCZ:Hid ((pdC (comeV r S)).toArray.size=23):=hD (by rw [List.size_toArray];exact za2 hcq)
   go_upto_region 38 with(fail)
   refine wp_region_noPanic ?_
   refine zt 9 (fun w'=>w'.rangeAt gp (t * 23) (pdC r).toArray.toList∧w'.rangeAt gs 0 (stA S).toList) (by kernel_rfl) ?_ (fun hHeld=>?_)
   ·exact⟨HRR.out _ (HD.out.drewN 1).ck,zj (HD.out.drewN 1).sb⟩
   change wpAnyT _ _ _ _ _ _ _ _ _ WW.drew
   replace hHeld:WW.drew.rangeAt gp (t * 23) (pdC r).toArray.toList∧WW.drew.rangeAt gs 0 (stA S).toList:=hHeld
   have HD:=hD (HD.out.drewN 1)
   change Hid (RnD w g gp gx gs OBV (PJ j) #[.int .i64 26,.int .i64 a,.int .i64 b,.int .i64 c,.int .i64 d] S v7 (n+1) ((l ++ [p.s]).flatMap stSs) WW.drew) at HD
   have HCO:=hD (HCO.out.up (bel_dn (Below.refl _ _) 1))
   change Hid (OpsAtD WW.drew (some ⟨bO,oO,none⟩) (opsOf 26)) at HCO
   generalize WW.drew=W5 at HD HCO hHeld ⊢
   have st:Stp [0,1,2,3,4]:=trivial
   iterate 5
    refine tPL st (v:=?_) rfl ?_ ?_
    rotate_left
    ·(intro w hSw;(try dsimp only at hSw);go_simp;try with_reducible rfl)
    replace st:=st.tl
    try simp only [qA,qB,qC,Act.put,qD,qE,qF]
   refine tkS (i:=5) (v:=.agg (pdC r).toArray) rfl (fun _ _ _ h=>h) (zl1 zq2 zf1 (by kernel_rfl) (.tmp 184) rfl gp (t * 23) rfl (pdC r).toArray HRZ.out (fun w hSw=>hSw.1)) hHeld ?_
   try simp only [qA,qB,qC,Act.put,qD,qE,qF]
   refine tkS (i:=6) (v:=.agg (stA S)) rfl (fun _ _ _ h=>h) (zl1 zb2 zg1 (by kernel_rfl) (.tmp 16) rfl gs (0) rfl (stA S) HSS.out (fun w hSw=>hSw.2)) hHeld ?_
   try simp only [qA,qB,qC,Act.put,qD,qE,qF]
   refine wT1 (i:=7) (by kernel_rfl) rfl fun K hK=>?_
   refine zp (vs:=#[.agg (pdC r).toArray,.agg (stA S)]) (by kernel_rfl) (enters_of Tryz.func34 (by kernel_rfl) rfl) _ rfl (by kernel_rfl) ?_
   refine(zg10 HRW.out.ok HSO.out W5).mono ?_
   rintro e1 w4 ⟨rfl,hb4⟩
   refine⟨_,rfl,?_⟩
   have HCO:=hD (HCO.out.up hb4)
   have HD:=hD (HD.out.up hb4)
   refine hK.out _ _ (fun _=>?_) (fun hHeld2=>?_)
   ·exact⟨HRR.out _ HD.out.ck,zj HD.out.sb⟩
   replace hHeld:=hHeld2 (by decide)
   clear hHeld2 hK K
   try simp only [qA,qB,qC,Act.put,qD,qE,qF]
   refine tP (i:=8) (v:=?_) rfl ?_ ?_
   rotate_left
   ·(intro w hSw;(try dsimp only at hSw);go_simp;try with_reducible rfl)
   try simp only [qA,qB,qC,Act.put,qD,qE,qF]
   refine wT1 (i:=9) (by kernel_rfl) rfl fun K hK=>?_
   rw [if_pos (by kernel_rfl)]
   refine wp_store_mid 97 (.tmp 188) (.tmp 187) rfl gp (t * 23) (pdC (comeV r S)).toArray rfl rfl (by rw [HCZ.out];exact HTH.out _ HD.out.ck) (by rw [HCZ.out];exact zf1) (zt4 _) ?_
   refine hK.out _ _ (fun h=>absurd h (by decide)) (fun _=>?_)
   clear hK K
   try simp only [qA,qB,qC,Act.put,qD,qE,qF]
   refine zn (by kernel_rfl) (NoPanic.normal ?_) _
   have HCO2:=hD (HCO.out.put HD.out.ck.pl (t * 23) (pdC (comeV r S)))
   have HD2:=hD (HPUT.out _ HD.out (comeV r S) hcq)
   rw [← HY1.out] at HD2
   go_wp2
   go_roundw
   case rel=>exact⟨j+1,by omega,by go_num,HD2,HCO2,HLJ2⟩
   case measure=>simp [intOf];omega
  ·have h26f:(op == 26)=false:=beq_eq_false_iff_ne.2 h26
   have HY1:Hid (PJ (j+1)=(PJ j).set t (comeV r (stOther arn))):=hD (by rw [HY1.out,if_neg h26])
   have hcq:StOk (comeV r (stOther arn)).s:=(HRW.out.come (StW.other arn hare)).ok
   have HCZ:Hid ((pdC (comeV r (stOther arn))).toArray.size=23):=hD (by rw [List.size_toArray];exact za2 hcq)
   go_upto_region 39 with(fail)
   refine wp_region_noPanic ?_
   refine zt 16 (fun w'=>w'.rangeAt gp (t * 23) (pdC r).toArray.toList∧w'.cell? ⟨g,2,none⟩=some (.slice (some ⟨bq,oq,none⟩) o.preds.length cp)∧w'.cell? ⟨bq,oq+ownk * 3+1,none⟩=some (.int .i64 (arn:Int))) (by kernel_rfl) ?_ (fun hHeld=>?_)
   ·exact⟨HRR.out _ (HD.out.drewN 1).ck,by have hcc:=(HD.out.drewN 1).ck.ob.cell 2;rw [HOV.out.2.2.1] at hcc;exact hcc,HCA.out _ (HD.out.drewN 1).ck.below⟩
   change wpAnyT _ _ _ _ _ _ _ _ _ WW.drew
   replace hHeld:WW.drew.rangeAt gp (t * 23) (pdC r).toArray.toList∧WW.drew.cell? ⟨g,2,none⟩=some (.slice (some ⟨bq,oq,none⟩) o.preds.length cp)∧WW.drew.cell? ⟨bq,oq+ownk * 3+1,none⟩=some (.int .i64 (arn:Int)):=hHeld
   have HD:=hD (HD.out.drewN 1)
   change Hid (RnD w g gp gx gs OBV (PJ j) #[.int .i64 op,.int .i64 a,.int .i64 b,.int .i64 c,.int .i64 d] S v7 (n+1) ((l ++ [p.s]).flatMap stSs) WW.drew) at HD
   have HCO:=hD (HCO.out.up (bel_dn (Below.refl _ _) 1))
   change Hid (OpsAtD WW.drew (some ⟨bO,oO,none⟩) (opsOf op)) at HCO
   generalize WW.drew=W5 at HD HCO hHeld ⊢
   have st:Stp [0,1,2,3,4]:=trivial
   iterate 5
    refine tPL st (v:=?_) rfl ?_ ?_
    rotate_left
    ·(intro w hSw;(try dsimp only at hSw);go_simp;try with_reducible rfl)
    replace st:=st.tl
    try simp only [qA,qB,qC,Act.put,qD,qE,qF]
   refine tkS (i:=5) (v:=.agg (pdC r).toArray) rfl (fun _ _ _ h=>h) (zl1 zq2 zf1 (by kernel_rfl) (.tmp 193) rfl gp (t * 23) rfl (pdC r).toArray HRZ.out (fun w hSw=>hSw.1)) hHeld ?_
   try simp only [qA,qB,qC,Act.put,qD,qE,qF]
   refine tP (i:=6) (v:=?_) rfl ?_ ?_
   rotate_left
   ·(intro w hSw;(try dsimp only at hSw);go_simp;try with_reducible rfl)
   try simp only [qA,qB,qC,Act.put,qD,qE,qF]
   refine tS (i:=7) (v:=?_) rfl ?_ hHeld ?_
   rotate_left
   ·intro w hSw
    try dsimp only at hSw
    obtain⟨h1,h2,h3⟩:=hSw
    go_simp
    try with_reducible rfl
   try simp only [qA,qB,qC,Act.put,qD,qE,qF]
   have st:Stp [8,9,10]:=trivial
   iterate 3
    refine tPL st (v:=?_) rfl ?_ ?_
    rotate_left
    ·(intro w hSw;(try dsimp only at hSw);go_simp;try with_reducible rfl)
    replace st:=st.tl
    try simp only [qA,qB,qC,Act.put,qD,qE,qF]
   refine tS (i:=11) (v:=?_) rfl ?_ hHeld ?_
   rotate_left
   ·intro w hSw
    try dsimp only at hSw
    obtain⟨h1,h2,h3⟩:=hSw
    go_simp
    try with_reducible rfl
   try simp only [qA,qB,qC,Act.put,qD,qE,qF]
   refine wT1 (i:=12) (by kernel_rfl) rfl fun K hK=>?_
   refine zp (vs:=#[.int .i64 (arn:Int)]) (by kernel_rfl) (enters_of Tryz.func30 (by kernel_rfl) rfl) _ rfl (by kernel_rfl) ?_
   refine(zu7 arn hare W5).mono ?_
   rintro e1 w4 ⟨rfl,rfl⟩
   refine⟨_,rfl,?_⟩
   refine hK.out _ _ (fun _=>?_) (fun hHeld2=>?_)
   ·exact hHeld
   replace hHeld:=hHeld2 (by decide)
   clear hHeld2 hK K
   try simp only [qA,qB,qC,Act.put,qD,qE,qF]
   refine tkP (i:=13) (v:=.agg (stA (stOther arn))) rfl (fun _ _ _ h=>h) (Or.inl ⟨by kernel_rfl,fun w _=>zs5 (qs:=#[(0,.int .u32 ((2 ^ arn - 1:Nat):Int)),(1,.int .i64 (-1)),(4,.bool true),(5,.bool true)]) rfl (by kernel_rfl) (zl10 arn w)⟩) ?_
   try simp only [qA,qB,qC,Act.put,qD,qE,qF]
   refine wT1 (i:=14) (by kernel_rfl) rfl fun K hK=>?_
   refine zp (vs:=#[.agg (pdC r).toArray,.agg (stA (stOther arn))]) (by kernel_rfl) (enters_of Tryz.func34 (by kernel_rfl) rfl) _ rfl (by kernel_rfl) ?_
   refine(zg10 HRW.out.ok (StOk.other arn hare) W5).mono ?_
   rintro e1 w4 ⟨rfl,hb4⟩
   refine⟨_,rfl,?_⟩
   have HCO:=hD (HCO.out.up hb4)
   have HD:=hD (HD.out.up hb4)
   refine hK.out _ _ (fun _=>?_) (fun hHeld2=>?_)
   ·exact⟨HRR.out _ HD.out.ck,by have hcc:=HD.out.ck.ob.cell 2;rw [HOV.out.2.2.1] at hcc;exact hcc,HCA.out _ HD.out.ck.below⟩
   replace hHeld:=hHeld2 (by decide)
   clear hHeld2 hK K
   try simp only [qA,qB,qC,Act.put,qD,qE,qF]
   refine tP (i:=15) (v:=?_) rfl ?_ ?_
   rotate_left
   ·(intro w hSw;(try dsimp only at hSw);go_simp;try with_reducible rfl)
   try simp only [qA,qB,qC,Act.put,qD,qE,qF]
   refine wT1 (i:=16) (by kernel_rfl) rfl fun K hK=>?_
   rw [if_pos (by kernel_rfl)]
   refine wp_store_mid 97 (.tmp 204) (.tmp 203) rfl gp (t * 23) (pdC (comeV r (stOther arn))).toArray rfl rfl (by rw [HCZ.out];exact HTH.out _ HD.out.ck) (by rw [HCZ.out];exact zf1) (zt4 _) ?_
   refine hK.out _ _ (fun h=>absurd h (by decide)) (fun _=>?_)
   clear hK K
   try simp only [qA,qB,qC,Act.put,qD,qE,qF]
   refine zn (by kernel_rfl) (NoPanic.normal ?_) _
   have HCO2:=hD (HCO.out.put HD.out.ck.pl (t * 23) (pdC (comeV r (stOther arn))))
   have HD2:=hD (HPUT.out _ HD.out (comeV r (stOther arn)) hcq)
   rw [← HY1.out] at HD2
   go_wp2
   go_roundw
   case rel=>exact⟨j+1,by omega,by go_num,HD2,HCO2,HLJ2⟩
   case measure=>simp [intOf];omega
end Go.Proofs.YtlmbiafloiompaaGreatDoor
