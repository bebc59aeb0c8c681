/-
 The statement's From: an object as the document has it,in new memory. Condition: at most 2000 of each.
-/
import Derived.Test.YtlmbiafloiompaaGreatDoorJO06
set_option linter.unusedVariables false
set_option linter.unusedSimpArgs false
namespace Go.Proofs.YtlmbiafloiompaaGreatDoor
open Go Go.RowKit Go.WideShapes Go.ChangeShapes
theorem slRFun:SlT 23 60 2 24:=⟨Tryz.underlying23,⟨.agg #[.string ⟨#[]⟩,.int .i64 0],by kernel_rfl,rfl⟩,by decide,by decide⟩
theorem zo13:SlT 24 63 3 32:=⟨Tryz.underlying24,⟨.agg #[.string ⟨#[]⟩,.int .i64 0,.int .i64 0],by kernel_rfl,rfl⟩,by decide,by decide⟩
theorem slRIns:SlT 25 54 5 40:=⟨Tryz.underlying25,⟨.agg #[.int .i64 0,.int .i64 0,.int .i64 0,.int .i64 0,.int .i64 0],by kernel_rfl,rfl⟩,by decide,by decide⟩
theorem zz4 {P:Program} {ops:Array Oper} {rest:List Oper} {o:Oper} {a:Act} {w:World} {Q:Exit→Act→World→Prop} {t:TypeId} {parts:Array (Nat × Value)} {v':Value} {w':World}
  (hr:(Instr.build t parts).run P w=.ok v' w') (hgd:o.guard=none) (ps:Array (Nat × Operand)) (ho:o.op=.build t ps) (hp:(ps.map fun(i,x)=>(i,a.eval x))=parts)
  (h:wpList P ops Q rest (a.put o.dst v') w'):wpList P ops Q (o :: rest) a w:=by
 refine wpList_plain hgd fun K hK=>?_
 subst hp
 unfold Oper.wp execOp
 simp only [ho,Sem.run_bind,Sem.run_pure,Result.andThen_ok,hr]
 exact hK _ _ h
theorem zm2 (s:ByteArray) (n m:Int) (w:World):(Instr.buildSlice 24 1 #[(0,.agg #[.string s,.int .i64 n,.int .i64 m])]).run Tryz.prog w=.ok (.slice (some ⟨w.heap.size,0,none⟩) 1 1) (w.alloc (.cells #[.string s,.int .i64 n,.int .i64 m] 63)):=by kernel_rfl
theorem build_rob (A:Option Addr) (n c:Nat) (w:World):(Instr.build 27 #[(0,.slice A n c)]).run Tryz.prog w=.ok (.agg #[.slice A n c,.slice none 0 0,.slice none 0 0,.slice none 0 0]) w:=run_build w _ _ _ (by kernel_rfl)
structure Fq (w wr:World) (g1 g2 g3:Nat) (us:Array Value) (va vf vp vc:Value) (la:List ByteArray) (lf:List (ByteArray × Int)) (lp:List (ByteArray × Int × Int)) (lc:List Ins):Prop where
 b1:Box wr g1 35 us
 b2:Box wr g2 27 #[.slice none 0 0,.slice none 0 0,.slice none 0 0,.slice none 0 0]
 b3:Box wr g3 27 #[va,vf,vp,vc]
 ra:wr.ownsRow w.heap.size 9 1 va la.length (la.map Value.string)
 rf:wr.ownsRow w.heap.size 60 2 vf lf.length (lf.flatMap funC)
 rp:wr.ownsRow w.heap.size 63 3 vp lp.length (lp.flatMap predC)
 rc:wr.ownsRow w.heap.size 54 5 vc lc.length (lc.flatMap insC)
 below:Below w.heap.size w wr
 lt:w.heap.size≤g1∧w.heap.size≤g2∧w.heap.size≤g3∧g1≠g3∧g2≠g3
section
variable {w wr w' w6:World} {g1 g2 g3:Nat} {us:Array Value} {va vf vp vc v6:Value} {la:List ByteArray} {lf:List (ByteArray × Int)} {lp:List (ByteArray × Int × Int)} {lc:List Ins}
theorem Fq.up (h:Fq w wr g1 g2 g3 us va vf vp vc la lf lp lc) (hb:Below wr.heap.size wr w'):Fq w w' g1 g2 g3 us va vf vp vc la lf lp lc:=
 ⟨h.b1.below hb h.b1.lt,h.b2.below hb h.b2.lt,h.b3.below hb h.b3.lt,own_fr (S:=fun _=>False) h.ra (Fr.of_below hb) (fun _ _ x=>x),own_fr (S:=fun _=>False) h.rf (Fr.of_below hb) (fun _ _ x=>x),
  own_fr (S:=fun _=>False) h.rp (Fr.of_below hb) (fun _ _ x=>x),own_fr (S:=fun _=>False) h.rc (Fr.of_below hb) (fun _ _ x=>x),h.below.trans (hb.mono h.below.size),h.lt⟩
theorem Fq.putf {s:ByteArray} {n:Int} (h:Fq w wr g1 g2 g3 us va vf vp vc la lf lp lc) (ha:App wr w6 w.heap.size 60 2 vf v6 (lf.length+1) (lf.flatMap funC ++ [.string s,.int .i64 n])) :
  Fq w (w6.setCell ⟨g3,1,none⟩ v6) g1 g2 g3 us va v6 vp vc la (lf ++ [(s,n)]) lp lc∧w6.cell? ⟨g3,1,none⟩=some vf∧w6.frozen? ⟨g3,1,none⟩=false:=by
 have hb3:=h.b3.fr ha.fr (fun e=>zb h.rf h.b3 (by decide) _ e rfl)
 have hb1:=h.b1.fr ha.fr (fun e=>zb h.rf h.b1 (by decide) _ e rfl)
 have hb2:=h.b2.fr ha.fr (fun e=>zb h.rf h.b2 (by decide) _ e rfl)
 refine⟨⟨hb1.far (by show g1≠g3;exact h.lt.2.2.2.1) _,hb2.far (by show g2≠g3;exact h.lt.2.2.2.2) _,?_,zd (own_fr h.ra ha.fr (fun k hk e=>zc h.ra h.rf (by decide) k hk e)) (p:=⟨g3,1,none⟩) (fun k hk=>zb (own_fr h.ra ha.fr (fun k hk e=>zc h.ra h.rf (by decide) k hk e)) hb3 (by decide) k hk) v6,(by have h2:=zd ha.own (p:=⟨g3,1,none⟩) (fun k hk=>zb ha.own hb3 (by decide) k hk) v6;rw [List.length_append,List.flatMap_append];simpa [funC,predC,insC] using h2),zd (own_fr h.rp ha.fr (fun k hk e=>zc h.rp h.rf (by decide) k hk e)) (p:=⟨g3,1,none⟩) (fun k hk=>zb (own_fr h.rp ha.fr (fun k hk e=>zc h.rp h.rf (by decide) k hk e)) hb3 (by decide) k hk) v6,zd (own_fr h.rc ha.fr (fun k hk e=>zc h.rc h.rf (by decide) k hk e)) (p:=⟨g3,1,none⟩) (fun k hk=>zb (own_fr h.rc ha.fr (fun k hk e=>zc h.rc h.rf (by decide) k hk e)) hb3 (by decide) k hk) v6,(h.below.trans (ha.fr.below h.below.size (fun k hk=>(own_ge h.rf hk).1))).setCell (p:=⟨g3,1,none⟩) h.lt.2.2.1 _,h.lt⟩,hb3.cell 1,hb3.frozen 1⟩
 have:=hb3.set_ 1 v6
 simpa using this
theorem Fq.putp {s:ByteArray} {n m:Int} (h:Fq w wr g1 g2 g3 us va vf vp vc la lf lp lc) (ha:App wr w6 w.heap.size 63 3 vp v6 (lp.length+1) (lp.flatMap predC ++ [.string s,.int .i64 n,.int .i64 m])) :
  Fq w (w6.setCell ⟨g3,2,none⟩ v6) g1 g2 g3 us va vf v6 vc la lf (lp ++ [(s,n,m)]) lc∧w6.cell? ⟨g3,2,none⟩=some vp∧w6.frozen? ⟨g3,2,none⟩=false:=by
 have hb3:=h.b3.fr ha.fr (fun e=>zb h.rp h.b3 (by decide) _ e rfl)
 have hb1:=h.b1.fr ha.fr (fun e=>zb h.rp h.b1 (by decide) _ e rfl)
 have hb2:=h.b2.fr ha.fr (fun e=>zb h.rp h.b2 (by decide) _ e rfl)
 refine⟨⟨hb1.far (by show g1≠g3;exact h.lt.2.2.2.1) _,hb2.far (by show g2≠g3;exact h.lt.2.2.2.2) _,?_,zd (own_fr h.ra ha.fr (fun k hk e=>zc h.ra h.rp (by decide) k hk e)) (p:=⟨g3,2,none⟩) (fun k hk=>zb (own_fr h.ra ha.fr (fun k hk e=>zc h.ra h.rp (by decide) k hk e)) hb3 (by decide) k hk) v6,zd (own_fr h.rf ha.fr (fun k hk e=>zc h.rf h.rp (by decide) k hk e)) (p:=⟨g3,2,none⟩) (fun k hk=>zb (own_fr h.rf ha.fr (fun k hk e=>zc h.rf h.rp (by decide) k hk e)) hb3 (by decide) k hk) v6,(by have h2:=zd ha.own (p:=⟨g3,2,none⟩) (fun k hk=>zb ha.own hb3 (by decide) k hk) v6;rw [List.length_append,List.flatMap_append];simpa [funC,predC,insC] using h2),zd (own_fr h.rc ha.fr (fun k hk e=>zc h.rc h.rp (by decide) k hk e)) (p:=⟨g3,2,none⟩) (fun k hk=>zb (own_fr h.rc ha.fr (fun k hk e=>zc h.rc h.rp (by decide) k hk e)) hb3 (by decide) k hk) v6,(h.below.trans (ha.fr.below h.below.size (fun k hk=>(own_ge h.rp hk).1))).setCell (p:=⟨g3,2,none⟩) h.lt.2.2.1 _,h.lt⟩,hb3.cell 2,hb3.frozen 2⟩
 have:=hb3.set_ 2 v6
 simpa using this
theorem Fq.putc {i0 i1 i2 i3 i4:Int} (h:Fq w wr g1 g2 g3 us va vf vp vc la lf lp lc) (ha:App wr w6 w.heap.size 54 5 vc v6 (lc.length+1) (lc.flatMap insC ++ [.int .i64 i0,.int .i64 i1,.int .i64 i2,.int .i64 i3,.int .i64 i4])) :
  Fq w (w6.setCell ⟨g3,3,none⟩ v6) g1 g2 g3 us va vf vp v6 la lf lp (lc ++ [(i0,i1,i2,i3,i4)])∧w6.cell? ⟨g3,3,none⟩=some vc∧w6.frozen? ⟨g3,3,none⟩=false:=by
 have hb3:=h.b3.fr ha.fr (fun e=>zb h.rc h.b3 (by decide) _ e rfl)
 have hb1:=h.b1.fr ha.fr (fun e=>zb h.rc h.b1 (by decide) _ e rfl)
 have hb2:=h.b2.fr ha.fr (fun e=>zb h.rc h.b2 (by decide) _ e rfl)
 refine⟨⟨hb1.far (by show g1≠g3;exact h.lt.2.2.2.1) _,hb2.far (by show g2≠g3;exact h.lt.2.2.2.2) _,?_,zd (own_fr h.ra ha.fr (fun k hk e=>zc h.ra h.rc (by decide) k hk e)) (p:=⟨g3,3,none⟩) (fun k hk=>zb (own_fr h.ra ha.fr (fun k hk e=>zc h.ra h.rc (by decide) k hk e)) hb3 (by decide) k hk) v6,zd (own_fr h.rf ha.fr (fun k hk e=>zc h.rf h.rc (by decide) k hk e)) (p:=⟨g3,3,none⟩) (fun k hk=>zb (own_fr h.rf ha.fr (fun k hk e=>zc h.rf h.rc (by decide) k hk e)) hb3 (by decide) k hk) v6,zd (own_fr h.rp ha.fr (fun k hk e=>zc h.rp h.rc (by decide) k hk e)) (p:=⟨g3,3,none⟩) (fun k hk=>zb (own_fr h.rp ha.fr (fun k hk e=>zc h.rp h.rc (by decide) k hk e)) hb3 (by decide) k hk) v6,(by have h2:=zd ha.own (p:=⟨g3,3,none⟩) (fun k hk=>zb ha.own hb3 (by decide) k hk) v6;rw [List.length_append,List.flatMap_append];simpa [funC,predC,insC] using h2),(h.below.trans (ha.fr.below h.below.size (fun k hk=>(own_ge h.rc hk).1))).setCell (p:=⟨g3,3,none⟩) h.lt.2.2.1 _,h.lt⟩,hb3.cell 3,hb3.frozen 3⟩
 have:=hb3.set_ 3 v6
 simpa using this
end
theorem zf11 (i0 i1 i2 i3 i4:Int) (w:World):(Instr.buildSlice 25 1 #[(0,.agg #[.int .i64 i0,.int .i64 i1,.int .i64 i2,.int .i64 i3,.int .i64 i4])]).run Tryz.prog w=.ok (.slice (some ⟨w.heap.size,0,none⟩) 1 1) (w.alloc (.cells #[.int .i64 i0,.int .i64 i1,.int .i64 i2,.int .i64 i3,.int .i64 i4] 54)):=by kernel_rfl
set_option maxRecDepth 100000 in
set_option maxHeartbeats 16000000 in
theorem zo11 (o:Ob) (ho:ObWf o) (va vf vp vc:Value) (w:World) (hv:ObAt w va vf vp vc o) (hnil:∀ k c,va=.slice none k c→c=0) :
  Calls Tryz.prog 11 #[.agg #[va,vf,vp,vc]] w fun e w'=>∃ ua uf up uc,e=.returned (.agg #[ua,uf,up,uc])∧ObAt w' ua uf up uc o∧Below w.heap.size w w'∧(∀ k c,ua=.slice none k c→c=0):=by
 obtain⟨A1,c1,rfl⟩:=CellsAt.form hv.atoms
 obtain⟨A2,c2,rfl⟩:=CellsAt.form hv.funs
 obtain⟨A3,c3,rfl⟩:=CellsAt.form hv.preds
 obtain⟨A4,c4,rfl⟩:=CellsAt.form hv.code
 have HV:=hD hv
 have HL:Hid (o.atoms.length≤1000000∧o.funs.length≤1000000∧o.preds.length≤1000000∧o.code.length≤1000000):=hD ⟨ho.la,ho.lf,ho.lp,ho.lc⟩
 clear hv
 have W1:Hid (Below w.heap.size w (((w.alloc (.cells #[.slice A1 o.atoms.length c1,.slice A2 o.funs.length c2,.slice A3 o.preds.length c3,.slice A4 o.code.length c4] 35)).alloc (.cells #[.slice none 0 0,.slice none 0 0,.slice none 0 0,.slice none 0 0] 27)).alloc (.cells #[] 9))):=hD ((za1 w _ _).alloc (by simp;omega) _)
 have B1:Hid (Box (((w.alloc (.cells #[.slice A1 o.atoms.length c1,.slice A2 o.funs.length c2,.slice A3 o.preds.length c3,.slice A4 o.code.length c4] 35)).alloc (.cells #[.slice none 0 0,.slice none 0 0,.slice none 0 0,.slice none 0 0] 27)).alloc (.cells #[] 9)) w.heap.size 35 #[.slice A1 o.atoms.length c1,.slice A2 o.funs.length c2,.slice A3 o.preds.length c3,.slice A4 o.code.length c4]):=hD (((Box.new w _ _).alloc _).alloc _)
 have B2:Hid (Box (((w.alloc (.cells #[.slice A1 o.atoms.length c1,.slice A2 o.funs.length c2,.slice A3 o.preds.length c3,.slice A4 o.code.length c4] 35)).alloc (.cells #[.slice none 0 0,.slice none 0 0,.slice none 0 0,.slice none 0 0] 27)).alloc (.cells #[] 9)) (w.heap.size+1) 27 #[.slice none 0 0,.slice none 0 0,.slice none 0 0,.slice none 0 0]):=hD (by
  have h:=(Box.new (w.alloc (.cells #[.slice A1 o.atoms.length c1,.slice A2 o.funs.length c2,.slice A3 o.preds.length c3,.slice A4 o.code.length c4] 35)) 27 #[.slice none 0 0,.slice none 0 0,.slice none 0 0,.slice none 0 0]).alloc (.cells #[] 9)
  rw [World.size_alloc] at h
  exact h)
 have R0:Hid ((((w.alloc (.cells #[.slice A1 o.atoms.length c1,.slice A2 o.funs.length c2,.slice A3 o.preds.length c3,.slice A4 o.code.length c4] 35)).alloc (.cells #[.slice none 0 0,.slice none 0 0,.slice none 0 0,.slice none 0 0] 27)).alloc (.cells #[] 9)).ownsRow w.heap.size 9 1 (.slice (some ⟨w.heap.size+1+1,0,none⟩) 0 0) 0 []):=hD (by
  refine⟨rfl,.inr ⟨w.heap.size+1+1,0,#[],rfl,by omega,?_,Nat.le_refl _,by unfold maxLen;omega,rfl,rfl⟩⟩
  have h:=heap_alloc_new ((w.alloc (.cells #[.slice A1 o.atoms.length c1,.slice A2 o.funs.length c2,.slice A3 o.preds.length c3,.slice A4 o.code.length c4] 35)).alloc (.cells #[.slice none 0 0,.slice none 0 0,.slice none 0 0,.slice none 0 0] 27)) (.cells #[] 9)
  rw [World.size_alloc,World.size_alloc] at h
  exact h)
 obtain⟨v6,w6,hr6,HA6⟩:=zz15 slStr R0.out (CellsAt.below HV.out.atoms W1.out) (by simp) (za19 _) (by have:=HL.out;omega) W1.out.size hnil 22
 obtain⟨A6,c6,hv6⟩:=HA6.out.form
 subst hv6
 have HR6:=hD hr6
 clear hr6
 go_enter Tryz.func11,Tryz.ntmps11
 have HBU:=hD (fun W=>build_rob A6 (0+o.atoms.length) c6 W)
 go_upto_region 2 with(at_builtin;refine zv HR6.out rfl _ _ rfl rfl rfl ?_;refine zz4 (HBU.out _) rfl _ rfl (by kernel_rfl) ?_)
 clear HBU
 have HB1:=B1.out.fr HA6.out.fr (fun e=>zb R0.out B1.out (by decide) _ e rfl)
 have HB2:=B2.out.fr HA6.out.fr (fun e=>zb R0.out B2.out (by decide) _ e rfl)
 have T1:Hid (Fq w (w6.alloc (.cells #[.slice A6 (0+o.atoms.length) c6,.slice none 0 0,.slice none 0 0,.slice none 0 0] 27)) w.heap.size (w.heap.size+1) w6.heap.size #[.slice A1 o.atoms.length c1,.slice A2 o.funs.length c2,.slice A3 o.preds.length c3,.slice A4 o.code.length c4] (.slice A6 (0+o.atoms.length) c6) (.slice none 0 0) (.slice none 0 0) (.slice none 0 0) o.atoms [] [] []):=hD
  ⟨HB1.alloc _,HB2.alloc _,Box.new _ _ _,own_fr (S:=fun _=>False) (by have:=HA6.out.own;rw [Nat.zero_add] at this ⊢;simpa using this) ((Fr.refl _ w6).alloc _) (fun _ _ x=>x),⟨rfl,.inl ⟨rfl,rfl⟩⟩,⟨rfl,.inl ⟨rfl,rfl⟩⟩,⟨rfl,.inl ⟨rfl,rfl⟩⟩,
   (W1.out.trans (HA6.out.fr.below W1.out.size (fun k hk=>(own_ge R0.out hk).1))).alloc (by have h1:=W1.out.size;have h2:=HA6.out.fr.size;omega) _,
   ⟨Nat.le_refl _,by omega,Nat.le_of_lt (by have:=HB1.lt;omega),by have:=HB1.lt;omega,by have:=HB2.lt;omega⟩⟩
 obtain⟨g3,hg3⟩:∃ g3,w6.heap.size=g3:=⟨_,rfl⟩
 obtain⟨w7,hw7⟩:∃ w7,w6.alloc (.cells #[.slice A6 (0+o.atoms.length) c6,.slice none 0 0,.slice none 0 0,.slice none 0 0] 27)=w7:=⟨_,rfl⟩
 rw [hg3] at T1
 rw [hw7] at T1
 simp only [Nat.zero_add] at T1 hw7
 rw [hw7,hg3]
 clear hg3 hw7 HR6 HA6 HB1 HB2 B1 B2 R0 W1
 go_wp2
 go_loopw [4] (fun i wr=>∃ (k:Nat) (vf:Value),k≤o.funs.length∧i=.int .i64 k∧Hid (Fq w wr w.heap.size (w.heap.size+1) g3 #[.slice A1 o.atoms.length c1,.slice A2 o.funs.length c2,.slice A3 o.preds.length c3,.slice A4 o.code.length c4] (.slice A6 o.atoms.length c6) vf (.slice none 0 0) (.slice none 0 0) o.atoms (o.funs.take k) [] [])) (fun i _=>o.funs.length - (intOf i).toNat)
 case atStart=>exact⟨0,_,by omega,rfl,T1⟩
 obtain⟨k,vf,hk,rfl,HT⟩:=hrel
 clear T1
 have hlf:=HL.out.2.1
 have q1:wr.cell? ⟨w.heap.size,1,none⟩=some (.slice A2 o.funs.length c2):=HT.out.b1.cell 1
 by_cases hlt:k<o.funs.length
 case pos=>
  obtain⟨b,off,hA2,hb,hc0,hc1⟩:=zy1 HV.out.funs k hlt
  subst hA2
  have d0:=(HT.out.below.cell (p:=⟨b,off+k * 2,none⟩) hb).trans hc0
  have d1:=(HT.out.below.cell (p:=⟨b,off+k * 2+1,none⟩) hb).trans hc1
  have HTK:Hid (o.funs.take (k+1)=o.funs.take k ++ [(o.funs[k].1,o.funs[k].2)]):=hD (by rw [List.take_succ_eq_append_getElem hlt])
  have HLN:Hid ((o.funs.take k).length=k):=hD (by rw [List.length_take];omega)
  generalize o.funs[k].1=s at d0 hc0 HTK
  generalize o.funs[k].2=n at d1 hc1 HTK
  have HTD:=hD (HT.out.up (bdrew1 wr))
  have c3':wr.cell? ⟨g3,1,none⟩=some vf:=HT.out.b3.cell 1
  have HSOF:=hD (fun(W:World) (hb9:Below w.heap.size w W) (h1:Box W w.heap.size 35 #[.slice A1 o.atoms.length c1,.slice (some ⟨b,off,none⟩) o.funs.length c2,.slice A3 o.preds.length c3,.slice A4 o.code.length c4])=>
   (⟨h1.cell 1,(hb9.cell (p:=⟨b,off+k * 2,none⟩) hb).trans hc0,(hb9.cell (p:=⟨b,off+k * 2+1,none⟩) hb).trans hc1⟩:W.cell? ⟨w.heap.size,1,none⟩=some (.slice (some ⟨b,off,none⟩) o.funs.length c2)∧W.cell? ⟨b,off+k * 2,none⟩=some (.string s)∧W.cell? ⟨b,off+k * 2+1,none⟩=some (.int .i64 n)))
  have e1:=fun oo=>(HT.out.b3.alloc oo).cell 1
  obtain⟨v8,w8,hr8,HA8⟩:=zp1 slRFun HTD.out.rf [.string s,.int .i64 n] rfl (by intro u hu;simp only [List.mem_cons,List.not_mem_nil,or_false] at hu;rcases hu with rfl | rfl <;> rfl) (by have:=HLN.out;omega) HTD.out.below.size 23
  obtain⟨A8,c8,hv8⟩:=HA8.out.form
  subst hv8
  obtain⟨hT8,z0,z1⟩:=HTD.out.putf HA8.out
  rw [← HTK.out,HLN.out] at hT8
  rw [HLN.out] at hr8
  have HT8:=hD hT8
  have HS8:=hD (HSOF.out w8 (HTD.out.below.trans (HA8.out.fr.below HTD.out.below.size (fun k hk=>(own_ge HTD.out.rf hk).1))) (HTD.out.b1.fr HA8.out.fr (fun e=>zb HTD.out.rf HTD.out.b1 (by decide) _ e rfl)))
  have HR9:=hD hr8
  have hbn:=And.intro (show(k:Int)<(o.funs.length:Int) by omega) (show(0:Int)≤(k:Int) by omega)
  obtain⟨hbn1,hbn2⟩:=hbn
  clear hr8 hT8 HA8 hc0 hc1 d0 d1
  go_upto_region 5 with(fail)
  clear q1
  refine wp_region_held_drew (S:=(fun W=>W.cell? ⟨w.heap.size,1,none⟩=some (.slice (some ⟨b,off,none⟩) o.funs.length c2)∧W.cell? ⟨b,off+k * 2,none⟩=some (.string s)∧W.cell? ⟨b,off+k * 2+1,none⟩=some (.int .i64 n))) (by kernel_rfl) ?_ (fun hHeld=>?_)
  ·exact HSOF.out _ HTD.out.below HTD.out.b1
  have st:StH [0,2,3,4,5,6,7,8,9,10,11,12,13,14,15]:=trivial
  iterate 15
   refine tHL st (v:=?_) rfl ?_ ?_
   rotate_left 1
   ·(intro w' hSw;(try dsimp only at hSw);go_simp;try with_reducible rfl)
   replace st:=st.tl
   try simp only [qA,qB,qC,Act.put,qD,qE,qF]
  refine wpAnyH_take (i:=16) (v:=.agg #[.string s,.int .i64 n]) rfl (by kernel_rfl) (by kernel_rfl) (by kernel_rfl) (fun _ _ _ h=>h) (Or.inl ⟨by rfl,fun w' hSw=>by kernel_rfl⟩) (by assumption) ?_
  try simp only [qA,qB,qC,Act.put,qD,qE,qF]
  refine wpAnyH_ready (rs:=[1,17]) (by kernel_rfl) (by simp) ?_
  refine AllReadyH.cons (o:=_) rfl (fun K hK=>?_) (AllReadyH.cons (o:=_) rfl (fun K hK=>?_) AllReadyH.nil)
  ·skip
   go_simp
   refine hK.out _ _ ?_ (fun hHeld=>?_)
   ·((try dsimp only);first | with_reducible assumption | exact hHeld | go_keep)
   clear hK K
   refine wH1 (i:=17) (by kernel_rfl) rfl fun K hK=>?_
   go_simp
   refine hK.out _ _ ?_ (fun hHeld=>?_)
   ·exact HSOF.out _ (HTD.out.up (za _ _)).below (HTD.out.up (za _ _)).b1
   clear hK K
   refine wH1 (i:=18) (by kernel_rfl) rfl fun K hK=>?_
   refine zi HR9.out rfl _ _ rfl rfl rfl ?_
   refine hK.out _ _ ?_ (fun hHeld=>?_)
   ·exact HS8.out
   clear hK K
   try simp only [qA,qB,qC,Act.put,qD,qE,qF]
   refine tHH (i:=19) (v:=?_) rfl ?_ ?_
   rotate_left 1
   ·(intro w' hSw;(try dsimp only at hSw);go_simp;try with_reducible rfl)
   try simp only [qA,qB,qC,Act.put,qD,qE,qF]
   refine wH1 (i:=20) (by kernel_rfl) rfl fun K hK=>?_
   go_simp
   refine hK.out _ _ ?_ (fun hHeld=>?_)
   ·exact HSOF.out _ HT8.out.below HT8.out.b1
   clear hK K
   refine wpAnyH_done (by kernel_rfl) ?_ _
   go_wp2_with fail
   go_roundw
   case rel=>exact⟨k+1,_,by omega,by go_num,HT8⟩
   case measure=>simp [intOf];omega
  ·skip
   go_simp
   refine hK.out _ _ ?_ (fun hHeld=>?_)
   ·exact HSOF.out _ (HTD.out.up (za _ _)).below (HTD.out.up (za _ _)).b1
   clear hK K
   refine wH1 (i:=1) (by kernel_rfl) rfl fun K hK=>?_
   go_simp
   refine hK.out _ _ ?_ (fun hHeld=>?_)
   ·((try dsimp only);first | with_reducible assumption | exact hHeld | go_keep)
   clear hK K
   refine wH1 (i:=18) (by kernel_rfl) rfl fun K hK=>?_
   refine zi HR9.out rfl _ _ rfl rfl rfl ?_
   refine hK.out _ _ ?_ (fun hHeld=>?_)
   ·exact HS8.out
   clear hK K
   try simp only [qA,qB,qC,Act.put,qD,qE,qF]
   refine tHH (i:=19) (v:=?_) rfl ?_ ?_
   rotate_left 1
   ·(intro w' hSw;(try dsimp only at hSw);go_simp;try with_reducible rfl)
   try simp only [qA,qB,qC,Act.put,qD,qE,qF]
   refine wH1 (i:=20) (by kernel_rfl) rfl fun K hK=>?_
   go_simp
   refine hK.out _ _ ?_ (fun hHeld=>?_)
   ·exact HSOF.out _ HT8.out.below HT8.out.b1
   clear hK K
   refine wpAnyH_done (by kernel_rfl) ?_ _
   go_wp2_with fail
   go_roundw
   case rel=>exact⟨k+1,_,by omega,by go_num,HT8⟩
   case measure=>simp [intOf];omega
 obtain rfl:k=o.funs.length:=by omega
 rw [List.take_length] at HT
 have T2:=HT
 have hlp:=HL.out.2.2.1
 clear HT hlt q1
 have q1:wr.cell? ⟨w.heap.size,1,none⟩=some (.slice A2 o.funs.length c2):=T2.out.b1.cell 1
 go_wp2
 clear q1
 go_loopw [5] (fun i wr=>∃ (k:Nat) (vp:Value),k≤o.preds.length∧i=.int .i64 k∧Hid (Fq w wr w.heap.size (w.heap.size+1) g3 #[.slice A1 o.atoms.length c1,.slice A2 o.funs.length c2,.slice A3 o.preds.length c3,.slice A4 o.code.length c4] (.slice A6 o.atoms.length c6) vf vp (.slice none 0 0) o.atoms o.funs (o.preds.take k) [])) (fun i _=>o.preds.length - (intOf i).toNat)
 case atStart=>exact⟨0,_,by omega,rfl,T2⟩
 obtain⟨k,vp,hk,rfl,HT⟩:=hrel
 clear T2
 have q1:wr.cell? ⟨w.heap.size,2,none⟩=some (.slice A3 o.preds.length c3):=HT.out.b1.cell 2
 by_cases hlt:k<o.preds.length
 case pos=>
  obtain⟨b,off,hA2,hb,hc0,hc1,hc2⟩:=zd1 HV.out.preds k hlt
  subst hA2
  have HTK:Hid (o.preds.take (k+1)=o.preds.take k ++ [(o.preds[k].1,o.preds[k].2.1,o.preds[k].2.2)]):=hD (by rw [List.take_succ_eq_append_getElem hlt])
  have HLN:Hid ((o.preds.take k).length=k):=hD (by rw [List.length_take];omega)
  generalize o.preds[k].1=s at hc0 HTK
  generalize o.preds[k].2.1=n at hc1 HTK
  generalize o.preds[k].2.2=m at hc2 HTK
  have HTD:=hD (HT.out.up (bdrew1 wr))
  have c3':wr.cell? ⟨g3,2,none⟩=some vp:=HT.out.b3.cell 2
  have HSOF:=hD (fun(W:World) (hb9:Below w.heap.size w W) (h1:Box W w.heap.size 35 #[.slice A1 o.atoms.length c1,.slice A2 o.funs.length c2,.slice (some ⟨b,off,none⟩) o.preds.length c3,.slice A4 o.code.length c4])=>
   (⟨h1.cell 2,(hb9.cell (p:=⟨b,off+k * 3,none⟩) hb).trans hc0,(hb9.cell (p:=⟨b,off+k * 3+1,none⟩) hb).trans hc1,(hb9.cell (p:=⟨b,off+k * 3+2,none⟩) hb).trans hc2⟩:W.cell? ⟨w.heap.size,2,none⟩=some (.slice (some ⟨b,off,none⟩) o.preds.length c3)∧W.cell? ⟨b,off+k * 3,none⟩=some (.string s)∧W.cell? ⟨b,off+k * 3+1,none⟩=some (.int .i64 n)∧W.cell? ⟨b,off+k * 3+2,none⟩=some (.int .i64 m)))
  have e1:=fun oo=>(HT.out.b3.alloc oo).cell 2
  have HBP:=hD (fun w=>zm2 s n m w)
  obtain⟨v8,w8,hr8,HA8⟩:=zp1 zo13 HTD.out.rp [.string s,.int .i64 n,.int .i64 m] rfl (by intro u hu;simp only [List.mem_cons,List.not_mem_nil,or_false] at hu;rcases hu with rfl | rfl | rfl <;> rfl) (by have:=HLN.out;omega) HTD.out.below.size 24
  obtain⟨A8,c8,hv8⟩:=HA8.out.form
  subst hv8
  obtain⟨hT8,z0,z1⟩:=HTD.out.putp HA8.out
  rw [← HTK.out,HLN.out] at hT8
  rw [HLN.out] at hr8
  have HT8:=hD hT8
  have HS8:=hD (HSOF.out w8 (HTD.out.below.trans (HA8.out.fr.below HTD.out.below.size (fun k hk=>(own_ge HTD.out.rp hk).1))) (HTD.out.b1.fr HA8.out.fr (fun e=>zb HTD.out.rp HTD.out.b1 (by decide) _ e rfl)))
  have HR9:=hD hr8
  have hbn:=And.intro (show(k:Int)<(o.preds.length:Int) by omega) (show(0:Int)≤(k:Int) by omega)
  obtain⟨hbn1,hbn2⟩:=hbn
  clear hr8 hT8 HA8 hc0 hc1 hc2
  go_upto_region 9 with(fail)
  clear q1
  refine wp_region_held_drew (S:=(fun W=>W.cell? ⟨w.heap.size,2,none⟩=some (.slice (some ⟨b,off,none⟩) o.preds.length c3)∧W.cell? ⟨b,off+k * 3,none⟩=some (.string s)∧W.cell? ⟨b,off+k * 3+1,none⟩=some (.int .i64 n)∧W.cell? ⟨b,off+k * 3+2,none⟩=some (.int .i64 m))) (by kernel_rfl) ?_ (fun hHeld=>?_)
  ·exact HSOF.out _ HTD.out.below HTD.out.b1
  have st:StH [0,2,3,4,5,6,7,8,9,10,11,12,13,14,15,16,17,18,19]:=trivial
  iterate 19
   refine tHL st (v:=?_) rfl ?_ ?_
   rotate_left 1
   ·(intro w' hSw;(try dsimp only at hSw);go_simp;try with_reducible rfl)
   replace st:=st.tl
   try simp only [qA,qB,qC,Act.put,qD,qE,qF]
  refine wpAnyH_take (i:=20) (v:=.agg #[.string s,.int .i64 n,.int .i64 m]) rfl (by kernel_rfl) (by kernel_rfl) (by kernel_rfl) (fun _ _ _ h=>h) (Or.inl ⟨by rfl,fun w' hSw=>by kernel_rfl⟩) (by assumption) ?_
  try simp only [qA,qB,qC,Act.put,qD,qE,qF]
  refine wpAnyH_ready (rs:=[1,21]) (by kernel_rfl) (by simp) ?_
  refine AllReadyH.cons (o:=_) rfl (fun K hK=>?_) (AllReadyH.cons (o:=_) rfl (fun K hK=>?_) AllReadyH.nil)
  ·skip
   go_simp
   refine hK.out _ _ ?_ (fun hHeld=>?_)
   ·((try dsimp only);first | with_reducible assumption | exact hHeld | go_keep)
   clear hK K
   refine wH1 (i:=21) (by kernel_rfl) rfl fun K hK=>?_
   refine zi1 (HBP.out _) rfl _ rfl (by kernel_rfl) ?_
   refine hK.out _ _ ?_ (fun hHeld=>?_)
   ·exact HSOF.out _ (HTD.out.up (za _ _)).below (HTD.out.up (za _ _)).b1
   clear hK K
   refine wH1 (i:=22) (by kernel_rfl) rfl fun K hK=>?_
   refine zi HR9.out rfl _ _ rfl rfl rfl ?_
   refine hK.out _ _ ?_ (fun hHeld=>?_)
   ·exact HS8.out
   clear hK K
   try simp only [qA,qB,qC,Act.put,qD,qE,qF]
   refine tHH (i:=23) (v:=?_) rfl ?_ ?_
   rotate_left 1
   ·(intro w' hSw;(try dsimp only at hSw);go_simp;try with_reducible rfl)
   try simp only [qA,qB,qC,Act.put,qD,qE,qF]
   refine wH1 (i:=24) (by kernel_rfl) rfl fun K hK=>?_
   go_simp
   refine hK.out _ _ ?_ (fun hHeld=>?_)
   ·exact HSOF.out _ HT8.out.below HT8.out.b1
   clear hK K
   refine wpAnyH_done (by kernel_rfl) ?_ _
   go_wp2_with fail
   go_roundw
   case rel=>exact⟨k+1,_,by omega,by go_num,HT8⟩
   case measure=>simp [intOf];omega
  ·skip
   refine zi1 (HBP.out _) rfl _ rfl (by kernel_rfl) ?_
   refine hK.out _ _ ?_ (fun hHeld=>?_)
   ·exact HSOF.out _ (HTD.out.up (za _ _)).below (HTD.out.up (za _ _)).b1
   clear hK K
   refine wH1 (i:=1) (by kernel_rfl) rfl fun K hK=>?_
   go_simp
   refine hK.out _ _ ?_ (fun hHeld=>?_)
   ·((try dsimp only);first | with_reducible assumption | exact hHeld | go_keep)
   clear hK K
   refine wH1 (i:=22) (by kernel_rfl) rfl fun K hK=>?_
   refine zi HR9.out rfl _ _ rfl rfl rfl ?_
   refine hK.out _ _ ?_ (fun hHeld=>?_)
   ·exact HS8.out
   clear hK K
   try simp only [qA,qB,qC,Act.put,qD,qE,qF]
   refine tHH (i:=23) (v:=?_) rfl ?_ ?_
   rotate_left 1
   ·(intro w' hSw;(try dsimp only at hSw);go_simp;try with_reducible rfl)
   try simp only [qA,qB,qC,Act.put,qD,qE,qF]
   refine wH1 (i:=24) (by kernel_rfl) rfl fun K hK=>?_
   go_simp
   refine hK.out _ _ ?_ (fun hHeld=>?_)
   ·exact HSOF.out _ HT8.out.below HT8.out.b1
   clear hK K
   refine wpAnyH_done (by kernel_rfl) ?_ _
   go_wp2_with fail
   go_roundw
   case rel=>exact⟨k+1,_,by omega,by go_num,HT8⟩
   case measure=>simp [intOf];omega
 obtain rfl:k=o.preds.length:=by omega
 rw [List.take_length] at HT
 have T3:=HT
 have hlcc:=HL.out.2.2.2
 clear HT hlt q1
 have q1:wr.cell? ⟨w.heap.size,2,none⟩=some (.slice A3 o.preds.length c3):=T3.out.b1.cell 2
 go_wp2
 clear q1
 go_loopw [6] (fun i wr=>∃ (k:Nat) (vc:Value),k≤o.code.length∧i=.int .i64 k∧Hid (Fq w wr w.heap.size (w.heap.size+1) g3 #[.slice A1 o.atoms.length c1,.slice A2 o.funs.length c2,.slice A3 o.preds.length c3,.slice A4 o.code.length c4] (.slice A6 o.atoms.length c6) vf vp vc o.atoms o.funs o.preds (o.code.take k))) (fun i _=>o.code.length - (intOf i).toNat)
 case atStart=>exact⟨0,_,by omega,rfl,T3⟩
 obtain⟨k,vc,hk,rfl,HT⟩:=hrel
 clear T3
 have q1:wr.cell? ⟨w.heap.size,3,none⟩=some (.slice A4 o.code.length c4):=HT.out.b1.cell 3
 by_cases hlt:k<o.code.length
 case pos=>
  obtain⟨b,off,hA2,hb,hc0,hc1,hc2,hc3,hc4⟩:=zm3 HV.out.code k hlt
  subst hA2
  have HTK:Hid (o.code.take (k+1)=o.code.take k ++ [(o.code[k].1,o.code[k].2.1,o.code[k].2.2.1,o.code[k].2.2.2.1,o.code[k].2.2.2.2)]):=hD (by rw [List.take_succ_eq_append_getElem hlt])
  have HLN:Hid ((o.code.take k).length=k):=hD (by rw [List.length_take];omega)
  generalize o.code[k].1=i0 at hc0 HTK
  generalize o.code[k].2.1=i1 at hc1 HTK
  generalize o.code[k].2.2.1=i2 at hc2 HTK
  generalize o.code[k].2.2.2.1=i3 at hc3 HTK
  generalize o.code[k].2.2.2.2=i4 at hc4 HTK
  have HTD:=hD (HT.out.up (bdrew1 wr))
  have c3':wr.cell? ⟨g3,3,none⟩=some vc:=HT.out.b3.cell 3
  have HSOF:=hD (fun(W:World) (hb9:Below w.heap.size w W) (h1:Box W w.heap.size 35 #[.slice A1 o.atoms.length c1,.slice A2 o.funs.length c2,.slice A3 o.preds.length c3,.slice (some ⟨b,off,none⟩) o.code.length c4])=>
   (⟨h1.cell 3,(hb9.cell (p:=⟨b,off+k * 5,none⟩) hb).trans hc0,(hb9.cell (p:=⟨b,off+k * 5+1,none⟩) hb).trans hc1,(hb9.cell (p:=⟨b,off+k * 5+2,none⟩) hb).trans hc2,(hb9.cell (p:=⟨b,off+k * 5+3,none⟩) hb).trans hc3,(hb9.cell (p:=⟨b,off+k * 5+4,none⟩) hb).trans hc4⟩:W.cell? ⟨w.heap.size,3,none⟩=some (.slice (some ⟨b,off,none⟩) o.code.length c4)∧W.cell? ⟨b,off+k * 5,none⟩=some (.int .i64 i0)∧W.cell? ⟨b,off+k * 5+1,none⟩=some (.int .i64 i1)∧W.cell? ⟨b,off+k * 5+2,none⟩=some (.int .i64 i2)∧W.cell? ⟨b,off+k * 5+3,none⟩=some (.int .i64 i3)∧W.cell? ⟨b,off+k * 5+4,none⟩=some (.int .i64 i4)))
  have hTO:=fun w=>from_any i0 i1 i2 i3 i4 w
  unfold insV at hTO
  have HTO:=hD hTO
  have HBS:=hD (fun w=>zf11 i0 i1 i2 i3 i4 w)
  have hbn:=And.intro (show(k:Int)<(o.code.length:Int) by omega) (show(0:Int)≤(k:Int) by omega)
  obtain⟨hbn1,hbn2⟩:=hbn
  clear hc0 hc1 hc2 hc3 hc4 hTO
  go_upto_region 13 with(fail)
  clear q1
  refine wp_region_held_drew (S:=(fun W=>W.cell? ⟨w.heap.size,3,none⟩=some (.slice (some ⟨b,off,none⟩) o.code.length c4)∧W.cell? ⟨b,off+k * 5,none⟩=some (.int .i64 i0)∧W.cell? ⟨b,off+k * 5+1,none⟩=some (.int .i64 i1)∧W.cell? ⟨b,off+k * 5+2,none⟩=some (.int .i64 i2)∧W.cell? ⟨b,off+k * 5+3,none⟩=some (.int .i64 i3)∧W.cell? ⟨b,off+k * 5+4,none⟩=some (.int .i64 i4))) (by kernel_rfl) ?_ (fun hHeld=>?_)
  ·exact HSOF.out _ HTD.out.below HTD.out.b1
  have st:StH [0,2,3,4,5,6]:=trivial
  iterate 6
   refine tHL st (v:=?_) rfl ?_ ?_
   rotate_left 1
   ·(intro w' hSw;(try dsimp only at hSw);go_simp;try with_reducible rfl)
   replace st:=st.tl
   try simp only [qA,qB,qC,Act.put,qD,qE,qF]
  refine wpAnyH_ready (rs:=[1,7]) (by kernel_rfl) (by simp) ?_
  refine AllReadyH.cons (o:=_) rfl (fun K hK=>?_) (AllReadyH.cons (o:=_) rfl (fun K hK=>?_) AllReadyH.nil)
  ·skip
   go_simp
   refine hK.out _ _ ?_ (fun hHeld=>?_)
   ·((try dsimp only);first | with_reducible assumption | exact hHeld | go_keep)
   clear hK K
   refine wH1 (i:=7) (by kernel_rfl) rfl fun K hK=>?_
   go_simp
   go_at_call 18;refine(HTO.out _).mono ?_;rintro e w9 ⟨rfl,hb9⟩;have HT9:=hD (HTD.out.up hb9);have e9:w9.cell? ⟨g3,3,none⟩=some vc:=HT9.out.b3.cell 3;have e1:=fun oo=>(HT9.out.b3.alloc oo).cell 3;obtain⟨v8,w8,hr8,HA8⟩:=zp1 slRIns HT9.out.rc [.int .i64 i0,.int .i64 i1,.int .i64 i2,.int .i64 i3,.int .i64 i4] rfl (by intro u hu;simp only [List.mem_cons,List.not_mem_nil,or_false] at hu;rcases hu with rfl | rfl | rfl | rfl | rfl <;> rfl) (by have:=HLN.out;omega) HT9.out.below.size 25;obtain⟨A8,c8,hv8⟩:=HA8.out.form;subst hv8;obtain⟨hT8,z0,z1⟩:=HT9.out.putc HA8.out;rw [← HTK.out,HLN.out] at hT8;rw [HLN.out] at hr8;have HT8:=hD hT8;have HS8:=hD (HSOF.out w8 (HT9.out.below.trans (HA8.out.fr.below HT9.out.below.size (fun k hk=>(own_ge HT9.out.rc hk).1))) (HT9.out.b1.fr HA8.out.fr (fun e=>zb HT9.out.rc HT9.out.b1 (by decide) _ e rfl)));have HR9:=hD hr8;clear hr8 hT8 HA8 hb9
   refine hK.out _ _ ?_ (fun hHeld=>?_)
   ·exact HSOF.out _ HT9.out.below HT9.out.b1
   clear hK K
   refine wH1 (i:=8) (by kernel_rfl) rfl fun K hK=>?_
   refine zi1 (HBS.out _) rfl _ rfl (by kernel_rfl) ?_
   refine hK.out _ _ ?_ (fun hHeld=>?_)
   ·exact HSOF.out _ (HT9.out.up (za _ _)).below (HT9.out.up (za _ _)).b1
   clear hK K
   refine wH1 (i:=9) (by kernel_rfl) rfl fun K hK=>?_
   refine zi HR9.out rfl _ _ rfl rfl rfl ?_
   refine hK.out _ _ ?_ (fun hHeld=>?_)
   ·exact HS8.out
   clear hK K
   try simp only [qA,qB,qC,Act.put,qD,qE,qF]
   refine tHH (i:=10) (v:=?_) rfl ?_ ?_
   rotate_left 1
   ·(intro w' hSw;(try dsimp only at hSw);go_simp;try with_reducible rfl)
   try simp only [qA,qB,qC,Act.put,qD,qE,qF]
   refine wH1 (i:=11) (by kernel_rfl) rfl fun K hK=>?_
   go_simp
   refine hK.out _ _ ?_ (fun hHeld=>?_)
   ·exact HSOF.out _ HT8.out.below HT8.out.b1
   clear hK K
   refine wpAnyH_done (by kernel_rfl) ?_ _
   go_wp2_with fail
   go_roundw
   case rel=>exact⟨k+1,_,by omega,by go_num,HT8⟩
   case measure=>simp [intOf];omega
  ·skip
   go_simp
   go_at_call 18;refine(HTO.out _).mono ?_;rintro e w9 ⟨rfl,hb9⟩;have HT9:=hD (HTD.out.up hb9);have e9:w9.cell? ⟨g3,3,none⟩=some vc:=HT9.out.b3.cell 3;have e1:=fun oo=>(HT9.out.b3.alloc oo).cell 3;obtain⟨v8,w8,hr8,HA8⟩:=zp1 slRIns HT9.out.rc [.int .i64 i0,.int .i64 i1,.int .i64 i2,.int .i64 i3,.int .i64 i4] rfl (by intro u hu;simp only [List.mem_cons,List.not_mem_nil,or_false] at hu;rcases hu with rfl | rfl | rfl | rfl | rfl <;> rfl) (by have:=HLN.out;omega) HT9.out.below.size 25;obtain⟨A8,c8,hv8⟩:=HA8.out.form;subst hv8;obtain⟨hT8,z0,z1⟩:=HT9.out.putc HA8.out;rw [← HTK.out,HLN.out] at hT8;rw [HLN.out] at hr8;have HT8:=hD hT8;have HS8:=hD (HSOF.out w8 (HT9.out.below.trans (HA8.out.fr.below HT9.out.below.size (fun k hk=>(own_ge HT9.out.rc hk).1))) (HT9.out.b1.fr HA8.out.fr (fun e=>zb HT9.out.rc HT9.out.b1 (by decide) _ e rfl)));have HR9:=hD hr8;clear hr8 hT8 HA8 hb9
   refine hK.out _ _ ?_ (fun hHeld=>?_)
   ·exact HSOF.out _ HT9.out.below HT9.out.b1
   clear hK K
   refine wpAnyH_ready (rs:=[1,8]) (by kernel_rfl) (by simp) ?_
   refine AllReadyH.cons (o:=_) rfl (fun K hK=>?_) (AllReadyH.cons (o:=_) rfl (fun K hK=>?_) AllReadyH.nil)
   ·skip
    go_simp
    refine hK.out _ _ ?_ (fun hHeld=>?_)
    ·((try dsimp only);first | with_reducible assumption | exact hHeld | go_keep)
    clear hK K
    refine wH1 (i:=8) (by kernel_rfl) rfl fun K hK=>?_
    refine zi1 (HBS.out _) rfl _ rfl (by kernel_rfl) ?_
    refine hK.out _ _ ?_ (fun hHeld=>?_)
    ·exact HSOF.out _ (HT9.out.up (za _ _)).below (HT9.out.up (za _ _)).b1
    clear hK K
    refine wH1 (i:=9) (by kernel_rfl) rfl fun K hK=>?_
    refine zi HR9.out rfl _ _ rfl rfl rfl ?_
    refine hK.out _ _ ?_ (fun hHeld=>?_)
    ·exact HS8.out
    clear hK K
    try simp only [qA,qB,qC,Act.put,qD,qE,qF]
    refine tHH (i:=10) (v:=?_) rfl ?_ ?_
    rotate_left 1
    ·(intro w' hSw;(try dsimp only at hSw);go_simp;try with_reducible rfl)
    try simp only [qA,qB,qC,Act.put,qD,qE,qF]
    refine wH1 (i:=11) (by kernel_rfl) rfl fun K hK=>?_
    go_simp
    refine hK.out _ _ ?_ (fun hHeld=>?_)
    ·exact HSOF.out _ HT8.out.below HT8.out.b1
    clear hK K
    refine wpAnyH_done (by kernel_rfl) ?_ _
    go_wp2_with fail
    go_roundw
    case rel=>exact⟨k+1,_,by omega,by go_num,HT8⟩
    case measure=>simp [intOf];omega
   ·skip
    refine zi1 (HBS.out _) rfl _ rfl (by kernel_rfl) ?_
    refine hK.out _ _ ?_ (fun hHeld=>?_)
    ·exact HSOF.out _ (HT9.out.up (za _ _)).below (HT9.out.up (za _ _)).b1
    clear hK K
    refine wH1 (i:=1) (by kernel_rfl) rfl fun K hK=>?_
    go_simp
    refine hK.out _ _ ?_ (fun hHeld=>?_)
    ·((try dsimp only);first | with_reducible assumption | exact hHeld | go_keep)
    clear hK K
    refine wH1 (i:=9) (by kernel_rfl) rfl fun K hK=>?_
    refine zi HR9.out rfl _ _ rfl rfl rfl ?_
    refine hK.out _ _ ?_ (fun hHeld=>?_)
    ·exact HS8.out
    clear hK K
    try simp only [qA,qB,qC,Act.put,qD,qE,qF]
    refine tHH (i:=10) (v:=?_) rfl ?_ ?_
    rotate_left 1
    ·(intro w' hSw;(try dsimp only at hSw);go_simp;try with_reducible rfl)
    try simp only [qA,qB,qC,Act.put,qD,qE,qF]
    refine wH1 (i:=11) (by kernel_rfl) rfl fun K hK=>?_
    go_simp
    refine hK.out _ _ ?_ (fun hHeld=>?_)
    ·exact HSOF.out _ HT8.out.below HT8.out.b1
    clear hK K
    refine wpAnyH_done (by kernel_rfl) ?_ _
    go_wp2_with fail
    go_roundw
    case rel=>exact⟨k+1,_,by omega,by go_num,HT8⟩
    case measure=>simp [intOf];omega
 obtain rfl:k=o.code.length:=by omega
 rw [List.take_length] at HT
 obtain⟨Af,cf,hvf,_⟩:=zl HT.out.rf
 obtain⟨Ap,cp,hvp,_⟩:=zl HT.out.rp
 obtain⟨Ac,cc,hvc,_⟩:=zl HT.out.rc
 subst hvf hvp hvc
 have b0:wr.cell? ⟨w.heap.size+1,0,none⟩=some (.slice none 0 0):=HT.out.b2.cell 0
 have b1:wr.cell? ⟨w.heap.size+1,1,none⟩=some (.slice none 0 0):=HT.out.b2.cell 1
 have b2:wr.cell? ⟨w.heap.size+1,2,none⟩=some (.slice none 0 0):=HT.out.b2.cell 2
 have b3:wr.cell? ⟨w.heap.size+1,3,none⟩=some (.slice none 0 0):=HT.out.b2.cell 3
 have z0:wr.frozen? ⟨w.heap.size+1,0,none⟩=false:=HT.out.b2.frozen 0
 have z1:wr.frozen? ⟨w.heap.size+1,1,none⟩=false:=HT.out.b2.frozen 1
 have z2:wr.frozen? ⟨w.heap.size+1,2,none⟩=false:=HT.out.b2.frozen 2
 have z3:wr.frozen? ⟨w.heap.size+1,3,none⟩=false:=HT.out.b2.frozen 3
 have o0:=HT.out.b3.cell 0
 have o1:=HT.out.b3.cell 1
 have o2:=HT.out.b3.cell 2
 have o3:=HT.out.b3.cell 3
 go_wp2
 refine zy8 HT.out.b2 (by intro W c0 c1 c2 c3;simp [results,Tryz.results11,go_sem,c0,c1,c2,c3]) ?_
 intro W hW hF
 refine⟨_,_,_,_,rfl,⟨?_,?_,?_,?_⟩,HT.out.below.trans (hF.below HT.out.below.size (fun k hk=>by omega)),own_nil HT.out.ra⟩
 ·exact CellsAt.of_own (own_fr HT.out.ra hF (fun k hk e=>zb HT.out.ra HT.out.b2 (by decide) k hk e)) (by decide)
 ·exact CellsAt.of_own (own_fr HT.out.rf hF (fun k hk e=>zb HT.out.rf HT.out.b2 (by decide) k hk e)) (by decide)
 ·exact CellsAt.of_own (own_fr HT.out.rp hF (fun k hk e=>zb HT.out.rp HT.out.b2 (by decide) k hk e)) (by decide)
 ·exact CellsAt.of_own (own_fr HT.out.rc hF (fun k hk e=>zb HT.out.rc HT.out.b2 (by decide) k hk e)) (by decide)
end Go.Proofs.YtlmbiafloiompaaGreatDoor
