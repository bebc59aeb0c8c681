/-
 The statement's To: an object as the program has it,in new memory. Condition: at most 2000 of each.
-/
import Derived.Test.YtlmbiafloiompaaGreatDoorJO05
set_option linter.unusedVariables false
set_option linter.unusedSimpArgs false
namespace Go.Proofs.YtlmbiafloiompaaGreatDoor
open Go Go.RowKit Go.WideShapes Go.ChangeShapes
theorem zz15 {t e:TypeId} {size bytes:Nat} (T:SlT t e size bytes) {wr:World} {base n m:Nat} {v u:Value} {xs news:List Value} (hown:wr.ownsRow base e size v n xs) (hu:CellsAt wr u m news) (hl:news.length=m * size)
  (h1:∀ u ∈ news,u.oneCell'=true) (hn:n+m≤1000000) (hbase:base≤wr.heap.size) (hnil:∀ k c,u=.slice none k c→c=0) (ty:TypeId) :
  ∃ v' w',(Builtin.append_ #[t,t] ty #[v,u]).run Tryz.prog wr=.ok v' w'∧Hid (App wr w' base e size v v' (n+m) (xs ++ news)):=by
 obtain⟨z,hi,hzs⟩:=T.info
 obtain⟨i,hi1,hz0,hz1,hz2⟩:=info_parts hi
 have hT:=T.pos
 have hsm:=T.small
 have hb:(n+m) * bytes≤140737488355328:=Nat.le_trans (Nat.mul_le_mul hn hsm) (by decide)
 have fin:∀ (ad:Addr) c,u=.slice (some ad) m c→(∀ j x,news[j]?=some x→wr.cell? (ad.add j)=some x)→∃ v' w',(Builtin.append_ #[t,t] ty #[v,u]).run Tryz.prog wr=.ok v' w'∧Hid (App wr w' base e size v v' (n+m) (xs ++ news)):=by
  intro ad c hu' hc
  subst hu'
  obtain⟨v',w',hr,h2,h3,_,h5⟩:=run_append_own_at (P:=Tryz.prog) wr base t ty e i z size bytes T.und hi1 hz0 hz1 hz2 hzs T.pos v n xs hown ad m c news hl hc h1 (by unfold maxLen;omega) hb hbase
  exact⟨v',w',hr,hD ⟨h2,Fr.of_grown h3 fun _ _ e=>e,h5.imp id fun h=>⟨_,h,Nat.le_refl _⟩,zl h2 |>.imp fun _ ⟨c,h,_⟩=>⟨c,h⟩⟩⟩
 rcases hu with⟨rfl,rfl,A,c,rfl⟩ | ⟨b,off,c,rfl,hlt,hc⟩
 ·cases A with
  | none=>
   have hr:=run_append_owned_none (P:=Tryz.prog) wr base t ty e i size T.und hi1 v n xs hown
   obtain rfl:=hnil 0 c rfl
   exact⟨v,wr,hr,hD ⟨by simpa using hown,Fr.refl _ _,.inl rfl,zl hown |>.imp fun _ ⟨c,h,_⟩=>⟨c,h⟩⟩⟩
  | some ad=>exact fin ad c rfl (fun j x hj=>by simp at hj)
 ·exact fin ⟨b,off,none⟩ c rfl (fun j x hj=>by rw [add_plain];exact hc j x hj)
structure Tq (w wr:World) (g1 g2 g3:Nat) (us:Array Value) (va vf vp vc:Value) (la:List ByteArray) (lf:List (ByteArray × Int)) (lp:List (ByteArray × Int × Int)) (lc:List Ins):Prop where
 b1:Box wr g1 27 us
 b2:Box wr g2 35 #[.slice none 0 0,.slice none 0 0,.slice none 0 0,.slice none 0 0]
 b3:Box wr g3 35 #[va,vf,vp,vc]
 ra:wr.ownsRow w.heap.size 9 1 va la.length (la.map Value.string)
 rf:wr.ownsRow w.heap.size 61 2 vf lf.length (lf.flatMap funC)
 rp:wr.ownsRow w.heap.size 64 3 vp lp.length (lp.flatMap predC)
 rc:wr.ownsRow w.heap.size 65 5 vc lc.length (lc.flatMap insC)
 below:Below w.heap.size w wr
 lt:w.heap.size≤g1∧w.heap.size≤g2∧w.heap.size≤g3∧g1≠g3∧g2≠g3
section
variable {w wr w' w6:World} {g1 g2 g3:Nat} {us:Array Value} {va vf vp vc v6:Value} {la:List ByteArray} {lf:List (ByteArray × Int)} {lp:List (ByteArray × Int × Int)} {lc:List Ins}
theorem Tq.up (h:Tq w wr g1 g2 g3 us va vf vp vc la lf lp lc) (hb:Below wr.heap.size wr w'):Tq w w' g1 g2 g3 us va vf vp vc la lf lp lc:=
 ⟨h.b1.below hb h.b1.lt,h.b2.below hb h.b2.lt,h.b3.below hb h.b3.lt,own_fr (S:=fun _=>False) h.ra (Fr.of_below hb) (fun _ _ x=>x),own_fr (S:=fun _=>False) h.rf (Fr.of_below hb) (fun _ _ x=>x),
  own_fr (S:=fun _=>False) h.rp (Fr.of_below hb) (fun _ _ x=>x),own_fr (S:=fun _=>False) h.rc (Fr.of_below hb) (fun _ _ x=>x),h.below.trans (hb.mono h.below.size),h.lt⟩
theorem Tq.putf {s:ByteArray} {n:Int} (h:Tq w wr g1 g2 g3 us va vf vp vc la lf lp lc) (ha:App wr w6 w.heap.size 61 2 vf v6 (lf.length+1) (lf.flatMap funC ++ [.string s,.int .i64 n])) :
  Tq w (w6.setCell ⟨g3,1,none⟩ v6) g1 g2 g3 us va v6 vp vc la (lf ++ [(s,n)]) lp lc∧w6.cell? ⟨g3,1,none⟩=some vf∧w6.frozen? ⟨g3,1,none⟩=false:=by
 have hb3:=h.b3.fr ha.fr (fun e=>zb h.rf h.b3 (by decide) _ e rfl)
 have hb1:=h.b1.fr ha.fr (fun e=>zb h.rf h.b1 (by decide) _ e rfl)
 have hb2:=h.b2.fr ha.fr (fun e=>zb h.rf h.b2 (by decide) _ e rfl)
 refine⟨⟨hb1.far (by show g1≠g3;exact h.lt.2.2.2.1) _,hb2.far (by show g2≠g3;exact h.lt.2.2.2.2) _,?_,zd (own_fr h.ra ha.fr (fun k hk e=>zc h.ra h.rf (by decide) k hk e)) (p:=⟨g3,1,none⟩) (fun k hk=>zb (own_fr h.ra ha.fr (fun k hk e=>zc h.ra h.rf (by decide) k hk e)) hb3 (by decide) k hk) v6,(by have h2:=zd ha.own (p:=⟨g3,1,none⟩) (fun k hk=>zb ha.own hb3 (by decide) k hk) v6;rw [List.length_append,List.flatMap_append];simpa [funC,predC,insC] using h2),zd (own_fr h.rp ha.fr (fun k hk e=>zc h.rp h.rf (by decide) k hk e)) (p:=⟨g3,1,none⟩) (fun k hk=>zb (own_fr h.rp ha.fr (fun k hk e=>zc h.rp h.rf (by decide) k hk e)) hb3 (by decide) k hk) v6,zd (own_fr h.rc ha.fr (fun k hk e=>zc h.rc h.rf (by decide) k hk e)) (p:=⟨g3,1,none⟩) (fun k hk=>zb (own_fr h.rc ha.fr (fun k hk e=>zc h.rc h.rf (by decide) k hk e)) hb3 (by decide) k hk) v6,(h.below.trans (ha.fr.below h.below.size (fun k hk=>(own_ge h.rf hk).1))).setCell (p:=⟨g3,1,none⟩) h.lt.2.2.1 _,h.lt⟩,hb3.cell 1,hb3.frozen 1⟩
 have:=hb3.set_ 1 v6
 simpa using this
theorem Tq.putp {s:ByteArray} {n m:Int} (h:Tq w wr g1 g2 g3 us va vf vp vc la lf lp lc) (ha:App wr w6 w.heap.size 64 3 vp v6 (lp.length+1) (lp.flatMap predC ++ [.string s,.int .i64 n,.int .i64 m])) :
  Tq w (w6.setCell ⟨g3,2,none⟩ v6) g1 g2 g3 us va vf v6 vc la lf (lp ++ [(s,n,m)]) lc∧w6.cell? ⟨g3,2,none⟩=some vp∧w6.frozen? ⟨g3,2,none⟩=false:=by
 have hb3:=h.b3.fr ha.fr (fun e=>zb h.rp h.b3 (by decide) _ e rfl)
 have hb1:=h.b1.fr ha.fr (fun e=>zb h.rp h.b1 (by decide) _ e rfl)
 have hb2:=h.b2.fr ha.fr (fun e=>zb h.rp h.b2 (by decide) _ e rfl)
 refine⟨⟨hb1.far (by show g1≠g3;exact h.lt.2.2.2.1) _,hb2.far (by show g2≠g3;exact h.lt.2.2.2.2) _,?_,zd (own_fr h.ra ha.fr (fun k hk e=>zc h.ra h.rp (by decide) k hk e)) (p:=⟨g3,2,none⟩) (fun k hk=>zb (own_fr h.ra ha.fr (fun k hk e=>zc h.ra h.rp (by decide) k hk e)) hb3 (by decide) k hk) v6,zd (own_fr h.rf ha.fr (fun k hk e=>zc h.rf h.rp (by decide) k hk e)) (p:=⟨g3,2,none⟩) (fun k hk=>zb (own_fr h.rf ha.fr (fun k hk e=>zc h.rf h.rp (by decide) k hk e)) hb3 (by decide) k hk) v6,(by have h2:=zd ha.own (p:=⟨g3,2,none⟩) (fun k hk=>zb ha.own hb3 (by decide) k hk) v6;rw [List.length_append,List.flatMap_append];simpa [funC,predC,insC] using h2),zd (own_fr h.rc ha.fr (fun k hk e=>zc h.rc h.rp (by decide) k hk e)) (p:=⟨g3,2,none⟩) (fun k hk=>zb (own_fr h.rc ha.fr (fun k hk e=>zc h.rc h.rp (by decide) k hk e)) hb3 (by decide) k hk) v6,(h.below.trans (ha.fr.below h.below.size (fun k hk=>(own_ge h.rp hk).1))).setCell (p:=⟨g3,2,none⟩) h.lt.2.2.1 _,h.lt⟩,hb3.cell 2,hb3.frozen 2⟩
 have:=hb3.set_ 2 v6
 simpa using this
theorem Tq.putc {i0 i1 i2 i3 i4:Int} (h:Tq w wr g1 g2 g3 us va vf vp vc la lf lp lc) (ha:App wr w6 w.heap.size 65 5 vc v6 (lc.length+1) (lc.flatMap insC ++ [.int .i64 i0,.int .i64 i1,.int .i64 i2,.int .i64 i3,.int .i64 i4])) :
  Tq w (w6.setCell ⟨g3,3,none⟩ v6) g1 g2 g3 us va vf vp v6 la lf lp (lc ++ [(i0,i1,i2,i3,i4)])∧w6.cell? ⟨g3,3,none⟩=some vc∧w6.frozen? ⟨g3,3,none⟩=false:=by
 have hb3:=h.b3.fr ha.fr (fun e=>zb h.rc h.b3 (by decide) _ e rfl)
 have hb1:=h.b1.fr ha.fr (fun e=>zb h.rc h.b1 (by decide) _ e rfl)
 have hb2:=h.b2.fr ha.fr (fun e=>zb h.rc h.b2 (by decide) _ e rfl)
 refine⟨⟨hb1.far (by show g1≠g3;exact h.lt.2.2.2.1) _,hb2.far (by show g2≠g3;exact h.lt.2.2.2.2) _,?_,zd (own_fr h.ra ha.fr (fun k hk e=>zc h.ra h.rc (by decide) k hk e)) (p:=⟨g3,3,none⟩) (fun k hk=>zb (own_fr h.ra ha.fr (fun k hk e=>zc h.ra h.rc (by decide) k hk e)) hb3 (by decide) k hk) v6,zd (own_fr h.rf ha.fr (fun k hk e=>zc h.rf h.rc (by decide) k hk e)) (p:=⟨g3,3,none⟩) (fun k hk=>zb (own_fr h.rf ha.fr (fun k hk e=>zc h.rf h.rc (by decide) k hk e)) hb3 (by decide) k hk) v6,zd (own_fr h.rp ha.fr (fun k hk e=>zc h.rp h.rc (by decide) k hk e)) (p:=⟨g3,3,none⟩) (fun k hk=>zb (own_fr h.rp ha.fr (fun k hk e=>zc h.rp h.rc (by decide) k hk e)) hb3 (by decide) k hk) v6,(by have h2:=zd ha.own (p:=⟨g3,3,none⟩) (fun k hk=>zb ha.own hb3 (by decide) k hk) v6;rw [List.length_append,List.flatMap_append];simpa [funC,predC,insC] using h2),(h.below.trans (ha.fr.below h.below.size (fun k hk=>(own_ge h.rc hk).1))).setCell (p:=⟨g3,3,none⟩) h.lt.2.2.1 _,h.lt⟩,hb3.cell 3,hb3.frozen 3⟩
 have:=hb3.set_ 3 v6
 simpa using this
end
theorem zm13 (i0 i1 i2 i3 i4:Int) (w:World):(Instr.buildSlice 33 1 #[(0,.agg #[.int .i64 i0,.int .i64 i1,.int .i64 i2,.int .i64 i3,.int .i64 i4])]).run Tryz.prog w=.ok (.slice (some ⟨w.heap.size,0,none⟩) 1 1) (w.alloc (.cells #[.int .i64 i0,.int .i64 i1,.int .i64 i2,.int .i64 i3,.int .i64 i4] 65)):=by kernel_rfl
theorem zi1 {P:Program} {ops:Array Oper} {o:Oper} {a:Act} {w:World} {K:Act→World→Prop} {Q:Exit→Act→World→Prop} {E:Prop} {t:TypeId} {len:Nat} {parts:Array (Nat × Value)} {v':Value} {w':World}
  (hr:(Instr.buildSlice t len parts).run P w=.ok v' w') (hgd:o.guard=none) (ps:Array (Nat × Operand)) (ho:o.op=.buildSlice t len ps) (hp:(ps.map fun(i,x)=>(i,a.eval x))=parts) (h:K (a.put o.dst v') w') :
  if Region.wanted o (yielded ops a.tmps)=true then Oper.wp P o a w K Q else E:=by
 have hw:Region.wanted o (yielded ops a.tmps)=true:=by simp [Region.wanted,hgd]
 rw [if_pos hw]
 subst hp
 unfold Oper.wp execOp
 simp only [ho,Sem.run_bind,Sem.run_pure,Result.andThen_ok,hr]
 exact h
theorem zy8 {P:Program} {fn:Func} {Q:Ending→World→Prop} {T:Array Value} {w2:World} {G:Nat} {t:TypeId} {z0 z1 z2 z3 a b c d:Value} (hb:Box w2 G t #[z0,z1,z2,z3])
  (hres:∀ W:World,W.cell? ⟨G,0,none⟩=some a→W.cell? ⟨G,1,none⟩=some b→W.cell? ⟨G,2,none⟩=some c→W.cell? ⟨G,3,none⟩=some d→(results fn T).run P W=.ok (.agg #[a,b,c,d]) W)
  (hQ:∀ W:World,Box W G t #[a,b,c,d]→Fr (fun k=>k=G) w2 W→Q (.returned (.agg #[a,b,c,d])) W) :
  bodyPost P fn Q .ret { tmps:=T,defers:=[] } ((((w2.setCell ⟨G,0,none⟩ a).setCell ⟨G,1,none⟩ b).setCell ⟨G,2,none⟩ c).setCell ⟨G,3,none⟩ d):=by
 have h4:Box ((((w2.setCell ⟨G,0,none⟩ a).setCell ⟨G,1,none⟩ b).setCell ⟨G,2,none⟩ c).setCell ⟨G,3,none⟩ d) G t #[a,b,c,d]:=by
  have:=(((hb.set_ 0 a).set_ 1 b).set_ 2 c).set_ 3 d
  simpa using this
 have hf:Fr (fun k=>k=G) w2 ((((w2.setCell ⟨G,0,none⟩ a).setCell ⟨G,1,none⟩ b).setCell ⟨G,2,none⟩ c).setCell ⟨G,3,none⟩ d):=
  ((((Fr.refl (fun b=>b=G) w2).setCell (p:=⟨G,0,none⟩) (.inl rfl) _).setCell (p:=⟨G,1,none⟩) (.inl rfl) _).setCell (p:=⟨G,2,none⟩) (.inl rfl) _).setCell (p:=⟨G,3,none⟩) (.inl rfl) _
 exact bodyPost_ret (hres _ (h4.cell 0) (h4.cell 1) (h4.cell 2) (h4.cell 3)) rfl (hQ _ h4 hf)
theorem own_nil {w:World} {base:Nat} {e:TypeId} {size n:Nat} {v:Value} {xs:List Value} (h:w.ownsRow base e size v n xs):∀ k c,v=.slice none k c→c=0:=by
 intro k c hv
 rcases h.2 with⟨h0,_⟩ | ⟨g,cap,cur,he,_⟩
 ·rw [h0] at hv
  injection hv with _ _ h3
  exact h3.symm
 ·rw [he] at hv
  injection hv with h1
  cases h1
theorem za19 (l:List ByteArray):∀ u ∈ l.map Value.string,u.oneCell'=true:=by
 intro u hu
 obtain⟨s,_,rfl⟩:=List.mem_map.1 hu
 rfl
set_option maxRecDepth 100000 in
set_option maxHeartbeats 16000000 in
theorem zd19 (o:Ob) (ho:ObWf o) (va vf vp vc:Value) (w:World) (hv:ObAt w va vf vp vc o) (hnil:∀ k c,va=.slice none k c→c=0) :
  Calls Tryz.prog 7 #[.agg #[va,vf,vp,vc]] w fun e w'=>∃ ua uf up uc,e=.returned (.agg #[ua,uf,up,uc])∧ObAt w' ua uf up uc o∧Below w.heap.size w w'∧(∀ k c,ua=.slice none k c→c=0):=by
 obtain⟨A1,c1,rfl⟩:=CellsAt.form hv.atoms
 obtain⟨A2,c2,rfl⟩:=CellsAt.form hv.funs
 obtain⟨A3,c3,rfl⟩:=CellsAt.form hv.preds
 obtain⟨A4,c4,rfl⟩:=CellsAt.form hv.code
 have HV:=hD hv
 have HL:Hid (o.atoms.length≤1000000∧o.funs.length≤1000000∧o.preds.length≤1000000∧o.code.length≤1000000):=hD ⟨ho.la,ho.lf,ho.lp,ho.lc⟩
 clear hv
 have W1:Hid (Below w.heap.size w (((w.alloc (.cells #[.slice A1 o.atoms.length c1,.slice A2 o.funs.length c2,.slice A3 o.preds.length c3,.slice A4 o.code.length c4] 27)).alloc (.cells #[.slice none 0 0,.slice none 0 0,.slice none 0 0,.slice none 0 0] 35)).alloc (.cells #[] 9))):=hD ((za1 w _ _).alloc (by simp;omega) _)
 have B1:Hid (Box (((w.alloc (.cells #[.slice A1 o.atoms.length c1,.slice A2 o.funs.length c2,.slice A3 o.preds.length c3,.slice A4 o.code.length c4] 27)).alloc (.cells #[.slice none 0 0,.slice none 0 0,.slice none 0 0,.slice none 0 0] 35)).alloc (.cells #[] 9)) w.heap.size 27 #[.slice A1 o.atoms.length c1,.slice A2 o.funs.length c2,.slice A3 o.preds.length c3,.slice A4 o.code.length c4]):=hD (((Box.new w _ _).alloc _).alloc _)
 have B2:Hid (Box (((w.alloc (.cells #[.slice A1 o.atoms.length c1,.slice A2 o.funs.length c2,.slice A3 o.preds.length c3,.slice A4 o.code.length c4] 27)).alloc (.cells #[.slice none 0 0,.slice none 0 0,.slice none 0 0,.slice none 0 0] 35)).alloc (.cells #[] 9)) (w.heap.size+1) 35 #[.slice none 0 0,.slice none 0 0,.slice none 0 0,.slice none 0 0]):=hD (by
  have h:=(Box.new (w.alloc (.cells #[.slice A1 o.atoms.length c1,.slice A2 o.funs.length c2,.slice A3 o.preds.length c3,.slice A4 o.code.length c4] 27)) 35 #[.slice none 0 0,.slice none 0 0,.slice none 0 0,.slice none 0 0]).alloc (.cells #[] 9)
  rw [World.size_alloc] at h
  exact h)
 have R0:Hid ((((w.alloc (.cells #[.slice A1 o.atoms.length c1,.slice A2 o.funs.length c2,.slice A3 o.preds.length c3,.slice A4 o.code.length c4] 27)).alloc (.cells #[.slice none 0 0,.slice none 0 0,.slice none 0 0,.slice none 0 0] 35)).alloc (.cells #[] 9)).ownsRow w.heap.size 9 1 (.slice (some ⟨w.heap.size+1+1,0,none⟩) 0 0) 0 []):=hD (by
  refine⟨rfl,.inr ⟨w.heap.size+1+1,0,#[],rfl,by omega,?_,Nat.le_refl _,by unfold maxLen;omega,rfl,rfl⟩⟩
  have h:=heap_alloc_new ((w.alloc (.cells #[.slice A1 o.atoms.length c1,.slice A2 o.funs.length c2,.slice A3 o.preds.length c3,.slice A4 o.code.length c4] 27)).alloc (.cells #[.slice none 0 0,.slice none 0 0,.slice none 0 0,.slice none 0 0] 35)) (.cells #[] 9)
  rw [World.size_alloc,World.size_alloc] at h
  exact h)
 obtain⟨v6,w6,hr6,HA6⟩:=zz15 slStr R0.out (CellsAt.below HV.out.atoms W1.out) (by simp) (za19 _) (by have:=HL.out;omega) W1.out.size hnil 22
 obtain⟨A6,c6,hv6⟩:=HA6.out.form
 subst hv6
 have HR6:=hD hr6
 clear hr6
 go_enter Tryz.func7,Tryz.ntmps7
 go_upto_region 2 with(at_builtin;refine zv HR6.out rfl _ _ rfl rfl rfl ?_)
 have HB1:=B1.out.fr HA6.out.fr (fun e=>zb R0.out B1.out (by decide) _ e rfl)
 have HB2:=B2.out.fr HA6.out.fr (fun e=>zb R0.out B2.out (by decide) _ e rfl)
 have T1:Hid (Tq w (w6.alloc (.cells #[.slice A6 (0+o.atoms.length) c6,.slice none 0 0,.slice none 0 0,.slice none 0 0] 35)) w.heap.size (w.heap.size+1) w6.heap.size #[.slice A1 o.atoms.length c1,.slice A2 o.funs.length c2,.slice A3 o.preds.length c3,.slice A4 o.code.length c4] (.slice A6 (0+o.atoms.length) c6) (.slice none 0 0) (.slice none 0 0) (.slice none 0 0) o.atoms [] [] []):=hD
  ⟨HB1.alloc _,HB2.alloc _,Box.new _ _ _,own_fr (S:=fun _=>False) (by have:=HA6.out.own;rw [Nat.zero_add] at this ⊢;simpa using this) ((Fr.refl _ w6).alloc _) (fun _ _ x=>x),⟨rfl,.inl ⟨rfl,rfl⟩⟩,⟨rfl,.inl ⟨rfl,rfl⟩⟩,⟨rfl,.inl ⟨rfl,rfl⟩⟩,
   (W1.out.trans (HA6.out.fr.below W1.out.size (fun k hk=>(own_ge R0.out hk).1))).alloc (by have h1:=W1.out.size;have h2:=HA6.out.fr.size;omega) _,
   ⟨Nat.le_refl _,by omega,Nat.le_of_lt (by have:=HB1.lt;omega),by have:=HB1.lt;omega,by have:=HB2.lt;omega⟩⟩
 obtain⟨g3,hg3⟩:∃ g3,w6.heap.size=g3:=⟨_,rfl⟩
 obtain⟨w7,hw7⟩:∃ w7,w6.alloc (.cells #[.slice A6 (0+o.atoms.length) c6,.slice none 0 0,.slice none 0 0,.slice none 0 0] 35)=w7:=⟨_,rfl⟩
 rw [hg3] at T1
 rw [hw7] at T1
 simp only [Nat.zero_add] at T1 hw7
 rw [hw7,hg3]
 clear hg3 hw7 HR6 HA6 HB1 HB2 B1 B2 R0 W1
 go_wp2
 go_loopw [4] (fun i wr=>∃ (k:Nat) (vf:Value),k≤o.funs.length∧i=.int .i64 k∧Hid (Tq w wr w.heap.size (w.heap.size+1) g3 #[.slice A1 o.atoms.length c1,.slice A2 o.funs.length c2,.slice A3 o.preds.length c3,.slice A4 o.code.length c4] (.slice A6 o.atoms.length c6) vf (.slice none 0 0) (.slice none 0 0) o.atoms (o.funs.take k) [] [])) (fun i _=>o.funs.length - (intOf i).toNat)
 case atStart=>exact⟨0,_,by omega,rfl,T1⟩
 obtain⟨k,vf,hk,rfl,HT⟩:=hrel
 clear T1
 have hlf:=HL.out.2.1
 have q1:wr.cell? ⟨w.heap.size,1,none⟩=some (.slice A2 o.funs.length c2):=HT.out.b1.cell 1
 by_cases hlt:k<o.funs.length
 case pos=>
  obtain⟨b,off,hA2,hb,hc0,hc1⟩:=zy1 HV.out.funs k hlt
  subst hA2
  have d0:=(HT.out.below.cell (p:=⟨b,off+k * 2,none⟩) hb).trans hc0
  have d1:=(HT.out.below.cell (p:=⟨b,off+k * 2+1,none⟩) hb).trans hc1
  have HTK:Hid (o.funs.take (k+1)=o.funs.take k ++ [(o.funs[k].1,o.funs[k].2)]):=hD (by rw [List.take_succ_eq_append_getElem hlt])
  have HLN:Hid ((o.funs.take k).length=k):=hD (by rw [List.length_take];omega)
  generalize o.funs[k].1=s at d0 hc0 HTK
  generalize o.funs[k].2=n at d1 hc1 HTK
  have HTD:=hD (HT.out.up (bdrew1 wr))
  have c3':wr.cell? ⟨g3,1,none⟩=some vf:=HT.out.b3.cell 1
  have HSOF:=hD (fun(W:World) (hb9:Below w.heap.size w W) (h1:Box W w.heap.size 27 #[.slice A1 o.atoms.length c1,.slice (some ⟨b,off,none⟩) o.funs.length c2,.slice A3 o.preds.length c3,.slice A4 o.code.length c4])=>
   (⟨h1.cell 1,(hb9.cell (p:=⟨b,off+k * 2,none⟩) hb).trans hc0,(hb9.cell (p:=⟨b,off+k * 2+1,none⟩) hb).trans hc1⟩:W.cell? ⟨w.heap.size,1,none⟩=some (.slice (some ⟨b,off,none⟩) o.funs.length c2)∧W.cell? ⟨b,off+k * 2,none⟩=some (.string s)∧W.cell? ⟨b,off+k * 2+1,none⟩=some (.int .i64 n)))
  have e1:=fun oo=>(HT.out.b3.alloc oo).cell 1
  obtain⟨v8,w8,hr8,HA8⟩:=zp1 slFun HTD.out.rf [.string s,.int .i64 n] rfl (by intro u hu;simp only [List.mem_cons,List.not_mem_nil,or_false] at hu;rcases hu with rfl | rfl <;> rfl) (by have:=HLN.out;omega) HTD.out.below.size 29
  obtain⟨A8,c8,hv8⟩:=HA8.out.form
  subst hv8
  obtain⟨hT8,z0,z1⟩:=HTD.out.putf HA8.out
  rw [← HTK.out,HLN.out] at hT8
  rw [HLN.out] at hr8
  have HT8:=hD hT8
  have HS8:=hD (HSOF.out w8 (HTD.out.below.trans (HA8.out.fr.below HTD.out.below.size (fun k hk=>(own_ge HTD.out.rf hk).1))) (HTD.out.b1.fr HA8.out.fr (fun e=>zb HTD.out.rf HTD.out.b1 (by decide) _ e rfl)))
  have HR9:=hD hr8
  have hbn:=And.intro (show(k:Int)<(o.funs.length:Int) by omega) (show(0:Int)≤(k:Int) by omega)
  obtain⟨hbn1,hbn2⟩:=hbn
  clear hr8 hT8 HA8 hc0 hc1 d0 d1
  go_upto_region 5 with(fail)
  clear q1
  refine wp_region_held_drew (S:=(fun W=>W.cell? ⟨w.heap.size,1,none⟩=some (.slice (some ⟨b,off,none⟩) o.funs.length c2)∧W.cell? ⟨b,off+k * 2,none⟩=some (.string s)∧W.cell? ⟨b,off+k * 2+1,none⟩=some (.int .i64 n))) (by kernel_rfl) ?_ (fun hHeld=>?_)
  ·exact HSOF.out _ HTD.out.below HTD.out.b1
  have st:StH [0,1,3,4,5,6,7,8,9,10,11,12,13,14]:=trivial
  iterate 14
   refine tHL st (v:=?_) rfl ?_ ?_
   rotate_left 1
   ·(intro w' hSw;(try dsimp only at hSw);go_simp;try with_reducible rfl)
   replace st:=st.tl
   try simp only [qA,qB,qC,Act.put,qD,qE,qF]
  refine wpAnyH_take (i:=15) (v:=.agg #[.string s,.int .i64 n]) rfl (by kernel_rfl) (by kernel_rfl) (by kernel_rfl) (fun _ _ _ h=>h) (Or.inl ⟨by rfl,fun w' hSw=>by kernel_rfl⟩) (by assumption) ?_
  try simp only [qA,qB,qC,Act.put,qD,qE,qF]
  refine wpAnyH_ready (rs:=[2,16]) (by kernel_rfl) (by simp) ?_
  refine AllReadyH.cons (o:=_) rfl (fun K hK=>?_) (AllReadyH.cons (o:=_) rfl (fun K hK=>?_) AllReadyH.nil)
  ·skip
   go_simp
   refine hK.out _ _ ?_ (fun hHeld=>?_)
   ·((try dsimp only);first | with_reducible assumption | go_keep)
   clear hK K
   refine wH1 (i:=16) (by kernel_rfl) rfl fun K hK=>?_
   go_simp
   refine hK.out _ _ ?_ (fun hHeld=>?_)
   ·exact HSOF.out _ (HTD.out.up (za _ _)).below (HTD.out.up (za _ _)).b1
   clear hK K
   refine wH1 (i:=17) (by kernel_rfl) rfl fun K hK=>?_
   refine zi HR9.out rfl _ _ rfl rfl rfl ?_
   refine hK.out _ _ ?_ (fun hHeld=>?_)
   ·exact HS8.out
   clear hK K
   try simp only [qA,qB,qC,Act.put,qD,qE,qF]
   have st:StH [18,19]:=trivial
   iterate 2
    refine tHL st (v:=?_) rfl ?_ ?_
    rotate_left 1
    ·(intro w' hSw;(try dsimp only at hSw);go_simp;try with_reducible rfl)
    replace st:=st.tl
    try simp only [qA,qB,qC,Act.put,qD,qE,qF]
   refine wH1 (i:=20) (by kernel_rfl) rfl fun K hK=>?_
   go_simp
   refine hK.out _ _ ?_ (fun hHeld=>?_)
   ·exact HSOF.out _ HT8.out.below HT8.out.b1
   clear hK K
   refine wpAnyH_done (by kernel_rfl) ?_ _
   go_wp2_with fail
   go_roundw
   case rel=>exact⟨k+1,_,by omega,by go_num,HT8⟩
   case measure=>simp [intOf];omega
  ·skip
   go_simp
   refine hK.out _ _ ?_ (fun hHeld=>?_)
   ·exact HSOF.out _ (HTD.out.up (za _ _)).below (HTD.out.up (za _ _)).b1
   clear hK K
   refine wH1 (i:=2) (by kernel_rfl) rfl fun K hK=>?_
   go_simp
   refine hK.out _ _ ?_ (fun hHeld=>?_)
   ·((try dsimp only);first | with_reducible assumption | go_keep)
   clear hK K
   refine wH1 (i:=17) (by kernel_rfl) rfl fun K hK=>?_
   refine zi HR9.out rfl _ _ rfl rfl rfl ?_
   refine hK.out _ _ ?_ (fun hHeld=>?_)
   ·exact HS8.out
   clear hK K
   try simp only [qA,qB,qC,Act.put,qD,qE,qF]
   have st:StH [18,19]:=trivial
   iterate 2
    refine tHL st (v:=?_) rfl ?_ ?_
    rotate_left 1
    ·(intro w' hSw;(try dsimp only at hSw);go_simp;try with_reducible rfl)
    replace st:=st.tl
    try simp only [qA,qB,qC,Act.put,qD,qE,qF]
   refine wH1 (i:=20) (by kernel_rfl) rfl fun K hK=>?_
   go_simp
   refine hK.out _ _ ?_ (fun hHeld=>?_)
   ·exact HSOF.out _ HT8.out.below HT8.out.b1
   clear hK K
   refine wpAnyH_done (by kernel_rfl) ?_ _
   go_wp2_with fail
   go_roundw
   case rel=>exact⟨k+1,_,by omega,by go_num,HT8⟩
   case measure=>simp [intOf];omega
 obtain rfl:k=o.funs.length:=by omega
 rw [List.take_length] at HT
 have T2:=HT
 have hlp:=HL.out.2.2.1
 clear HT hlt q1
 have q1:wr.cell? ⟨w.heap.size,1,none⟩=some (.slice A2 o.funs.length c2):=T2.out.b1.cell 1
 go_wp2
 clear q1
 go_loopw [5] (fun i wr=>∃ (k:Nat) (vp:Value),k≤o.preds.length∧i=.int .i64 k∧Hid (Tq w wr w.heap.size (w.heap.size+1) g3 #[.slice A1 o.atoms.length c1,.slice A2 o.funs.length c2,.slice A3 o.preds.length c3,.slice A4 o.code.length c4] (.slice A6 o.atoms.length c6) vf vp (.slice none 0 0) o.atoms o.funs (o.preds.take k) [])) (fun i _=>o.preds.length - (intOf i).toNat)
 case atStart=>exact⟨0,_,by omega,rfl,T2⟩
 obtain⟨k,vp,hk,rfl,HT⟩:=hrel
 clear T2
 have q1:wr.cell? ⟨w.heap.size,2,none⟩=some (.slice A3 o.preds.length c3):=HT.out.b1.cell 2
 by_cases hlt:k<o.preds.length
 case pos=>
  obtain⟨b,off,hA2,hb,hc0,hc1,hc2⟩:=zd1 HV.out.preds k hlt
  subst hA2
  have HTK:Hid (o.preds.take (k+1)=o.preds.take k ++ [(o.preds[k].1,o.preds[k].2.1,o.preds[k].2.2)]):=hD (by rw [List.take_succ_eq_append_getElem hlt])
  have HLN:Hid ((o.preds.take k).length=k):=hD (by rw [List.length_take];omega)
  generalize o.preds[k].1=s at hc0 HTK
  generalize o.preds[k].2.1=n at hc1 HTK
  generalize o.preds[k].2.2=m at hc2 HTK
  have HTD:=hD (HT.out.up (bdrew1 wr))
  have c3':wr.cell? ⟨g3,2,none⟩=some vp:=HT.out.b3.cell 2
  have HSOF:=hD (fun(W:World) (hb9:Below w.heap.size w W) (h1:Box W w.heap.size 27 #[.slice A1 o.atoms.length c1,.slice A2 o.funs.length c2,.slice (some ⟨b,off,none⟩) o.preds.length c3,.slice A4 o.code.length c4])=>
   (⟨h1.cell 2,(hb9.cell (p:=⟨b,off+k * 3,none⟩) hb).trans hc0,(hb9.cell (p:=⟨b,off+k * 3+1,none⟩) hb).trans hc1,(hb9.cell (p:=⟨b,off+k * 3+2,none⟩) hb).trans hc2⟩:W.cell? ⟨w.heap.size,2,none⟩=some (.slice (some ⟨b,off,none⟩) o.preds.length c3)∧W.cell? ⟨b,off+k * 3,none⟩=some (.string s)∧W.cell? ⟨b,off+k * 3+1,none⟩=some (.int .i64 n)∧W.cell? ⟨b,off+k * 3+2,none⟩=some (.int .i64 m)))
  have e1:=fun oo=>(HT.out.b3.alloc oo).cell 2
  obtain⟨v8,w8,hr8,HA8⟩:=zp1 slPred HTD.out.rp [.string s,.int .i64 n,.int .i64 m] rfl (by intro u hu;simp only [List.mem_cons,List.not_mem_nil,or_false] at hu;rcases hu with rfl | rfl | rfl <;> rfl) (by have:=HLN.out;omega) HTD.out.below.size 32
  obtain⟨A8,c8,hv8⟩:=HA8.out.form
  subst hv8
  obtain⟨hT8,z0,z1⟩:=HTD.out.putp HA8.out
  rw [← HTK.out,HLN.out] at hT8
  rw [HLN.out] at hr8
  have HT8:=hD hT8
  have HS8:=hD (HSOF.out w8 (HTD.out.below.trans (HA8.out.fr.below HTD.out.below.size (fun k hk=>(own_ge HTD.out.rp hk).1))) (HTD.out.b1.fr HA8.out.fr (fun e=>zb HTD.out.rp HTD.out.b1 (by decide) _ e rfl)))
  have HR9:=hD hr8
  have hbn:=And.intro (show(k:Int)<(o.preds.length:Int) by omega) (show(0:Int)≤(k:Int) by omega)
  obtain⟨hbn1,hbn2⟩:=hbn
  clear hr8 hT8 HA8 hc0 hc1 hc2
  go_upto_region 9 with(fail)
  clear q1
  refine wp_region_held_drew (S:=(fun W=>W.cell? ⟨w.heap.size,2,none⟩=some (.slice (some ⟨b,off,none⟩) o.preds.length c3)∧W.cell? ⟨b,off+k * 3,none⟩=some (.string s)∧W.cell? ⟨b,off+k * 3+1,none⟩=some (.int .i64 n)∧W.cell? ⟨b,off+k * 3+2,none⟩=some (.int .i64 m))) (by kernel_rfl) ?_ (fun hHeld=>?_)
  ·exact HSOF.out _ HTD.out.below HTD.out.b1
  have st:StH [0,2,3,4,5,6,7,8,9,10,11,12,13,14,15,16,17,18,19]:=trivial
  iterate 19
   refine tHL st (v:=?_) rfl ?_ ?_
   rotate_left 1
   ·(intro w' hSw;(try dsimp only at hSw);go_simp;try with_reducible rfl)
   replace st:=st.tl
   try simp only [qA,qB,qC,Act.put,qD,qE,qF]
  refine wpAnyH_take (i:=20) (v:=.agg #[.string s,.int .i64 n,.int .i64 m]) rfl (by kernel_rfl) (by kernel_rfl) (by kernel_rfl) (fun _ _ _ h=>h) (Or.inl ⟨by rfl,fun w' hSw=>by kernel_rfl⟩) (by assumption) ?_
  try simp only [qA,qB,qC,Act.put,qD,qE,qF]
  refine wpAnyH_ready (rs:=[1,21]) (by kernel_rfl) (by simp) ?_
  refine AllReadyH.cons (o:=_) rfl (fun K hK=>?_) (AllReadyH.cons (o:=_) rfl (fun K hK=>?_) AllReadyH.nil)
  ·skip
   go_simp
   refine hK.out _ _ ?_ (fun hHeld=>?_)
   ·((try dsimp only);first | with_reducible assumption | go_keep)
   clear hK K
   refine wH1 (i:=21) (by kernel_rfl) rfl fun K hK=>?_
   go_simp
   refine hK.out _ _ ?_ (fun hHeld=>?_)
   ·exact HSOF.out _ (HTD.out.up (za _ _)).below (HTD.out.up (za _ _)).b1
   clear hK K
   refine wH1 (i:=22) (by kernel_rfl) rfl fun K hK=>?_
   refine zi HR9.out rfl _ _ rfl rfl rfl ?_
   refine hK.out _ _ ?_ (fun hHeld=>?_)
   ·exact HS8.out
   clear hK K
   try simp only [qA,qB,qC,Act.put,qD,qE,qF]
   refine tHH (i:=23) (v:=?_) rfl ?_ ?_
   rotate_left 1
   ·(intro w' hSw;(try dsimp only at hSw);go_simp;try with_reducible rfl)
   try simp only [qA,qB,qC,Act.put,qD,qE,qF]
   refine wH1 (i:=24) (by kernel_rfl) rfl fun K hK=>?_
   go_simp
   refine hK.out _ _ ?_ (fun hHeld=>?_)
   ·exact HSOF.out _ HT8.out.below HT8.out.b1
   clear hK K
   refine wpAnyH_done (by kernel_rfl) ?_ _
   go_wp2_with fail
   go_roundw
   case rel=>exact⟨k+1,_,by omega,by go_num,HT8⟩
   case measure=>simp [intOf];omega
  ·skip
   go_simp
   refine hK.out _ _ ?_ (fun hHeld=>?_)
   ·exact HSOF.out _ (HTD.out.up (za _ _)).below (HTD.out.up (za _ _)).b1
   clear hK K
   refine wH1 (i:=1) (by kernel_rfl) rfl fun K hK=>?_
   go_simp
   refine hK.out _ _ ?_ (fun hHeld=>?_)
   ·((try dsimp only);first | with_reducible assumption | go_keep)
   clear hK K
   refine wH1 (i:=22) (by kernel_rfl) rfl fun K hK=>?_
   refine zi HR9.out rfl _ _ rfl rfl rfl ?_
   refine hK.out _ _ ?_ (fun hHeld=>?_)
   ·exact HS8.out
   clear hK K
   try simp only [qA,qB,qC,Act.put,qD,qE,qF]
   refine tHH (i:=23) (v:=?_) rfl ?_ ?_
   rotate_left 1
   ·(intro w' hSw;(try dsimp only at hSw);go_simp;try with_reducible rfl)
   try simp only [qA,qB,qC,Act.put,qD,qE,qF]
   refine wH1 (i:=24) (by kernel_rfl) rfl fun K hK=>?_
   go_simp
   refine hK.out _ _ ?_ (fun hHeld=>?_)
   ·exact HSOF.out _ HT8.out.below HT8.out.b1
   clear hK K
   refine wpAnyH_done (by kernel_rfl) ?_ _
   go_wp2_with fail
   go_roundw
   case rel=>exact⟨k+1,_,by omega,by go_num,HT8⟩
   case measure=>simp [intOf];omega
 obtain rfl:k=o.preds.length:=by omega
 rw [List.take_length] at HT
 have T3:=HT
 have hlcc:=HL.out.2.2.2
 clear HT hlt q1
 have q1:wr.cell? ⟨w.heap.size,2,none⟩=some (.slice A3 o.preds.length c3):=T3.out.b1.cell 2
 go_wp2
 clear q1
 go_loopw [6] (fun i wr=>∃ (k:Nat) (vc:Value),k≤o.code.length∧i=.int .i64 k∧Hid (Tq w wr w.heap.size (w.heap.size+1) g3 #[.slice A1 o.atoms.length c1,.slice A2 o.funs.length c2,.slice A3 o.preds.length c3,.slice A4 o.code.length c4] (.slice A6 o.atoms.length c6) vf vp vc o.atoms o.funs o.preds (o.code.take k))) (fun i _=>o.code.length - (intOf i).toNat)
 case atStart=>exact⟨0,_,by omega,rfl,T3⟩
 obtain⟨k,vc,hk,rfl,HT⟩:=hrel
 clear T3
 have q1:wr.cell? ⟨w.heap.size,3,none⟩=some (.slice A4 o.code.length c4):=HT.out.b1.cell 3
 by_cases hlt:k<o.code.length
 case pos=>
  obtain⟨b,off,hA2,hb,hc0,hc1,hc2,hc3,hc4⟩:=zm3 HV.out.code k hlt
  subst hA2
  have HTK:Hid (o.code.take (k+1)=o.code.take k ++ [(o.code[k].1,o.code[k].2.1,o.code[k].2.2.1,o.code[k].2.2.2.1,o.code[k].2.2.2.2)]):=hD (by rw [List.take_succ_eq_append_getElem hlt])
  have HLN:Hid ((o.code.take k).length=k):=hD (by rw [List.length_take];omega)
  generalize o.code[k].1=i0 at hc0 HTK
  generalize o.code[k].2.1=i1 at hc1 HTK
  generalize o.code[k].2.2.1=i2 at hc2 HTK
  generalize o.code[k].2.2.2.1=i3 at hc3 HTK
  generalize o.code[k].2.2.2.2=i4 at hc4 HTK
  have HTD:=hD (HT.out.up (bdrew1 wr))
  have c3':wr.cell? ⟨g3,3,none⟩=some vc:=HT.out.b3.cell 3
  have HSOF:=hD (fun(W:World) (hb9:Below w.heap.size w W) (h1:Box W w.heap.size 27 #[.slice A1 o.atoms.length c1,.slice A2 o.funs.length c2,.slice A3 o.preds.length c3,.slice (some ⟨b,off,none⟩) o.code.length c4])=>
   (⟨h1.cell 3,(hb9.cell (p:=⟨b,off+k * 5,none⟩) hb).trans hc0,(hb9.cell (p:=⟨b,off+k * 5+1,none⟩) hb).trans hc1,(hb9.cell (p:=⟨b,off+k * 5+2,none⟩) hb).trans hc2,(hb9.cell (p:=⟨b,off+k * 5+3,none⟩) hb).trans hc3,(hb9.cell (p:=⟨b,off+k * 5+4,none⟩) hb).trans hc4⟩:W.cell? ⟨w.heap.size,3,none⟩=some (.slice (some ⟨b,off,none⟩) o.code.length c4)∧W.cell? ⟨b,off+k * 5,none⟩=some (.int .i64 i0)∧W.cell? ⟨b,off+k * 5+1,none⟩=some (.int .i64 i1)∧W.cell? ⟨b,off+k * 5+2,none⟩=some (.int .i64 i2)∧W.cell? ⟨b,off+k * 5+3,none⟩=some (.int .i64 i3)∧W.cell? ⟨b,off+k * 5+4,none⟩=some (.int .i64 i4)))
  have hTO:=fun w=>to_any i0 i1 i2 i3 i4 w
  unfold insV at hTO
  have HTO:=hD hTO
  have HBS:=hD (fun w=>zm13 i0 i1 i2 i3 i4 w)
  have hbn:=And.intro (show(k:Int)<(o.code.length:Int) by omega) (show(0:Int)≤(k:Int) by omega)
  obtain⟨hbn1,hbn2⟩:=hbn
  clear hc0 hc1 hc2 hc3 hc4 hTO
  go_upto_region 13 with(fail)
  clear q1
  refine wp_region_held_drew (S:=(fun W=>W.cell? ⟨w.heap.size,3,none⟩=some (.slice (some ⟨b,off,none⟩) o.code.length c4)∧W.cell? ⟨b,off+k * 5,none⟩=some (.int .i64 i0)∧W.cell? ⟨b,off+k * 5+1,none⟩=some (.int .i64 i1)∧W.cell? ⟨b,off+k * 5+2,none⟩=some (.int .i64 i2)∧W.cell? ⟨b,off+k * 5+3,none⟩=some (.int .i64 i3)∧W.cell? ⟨b,off+k * 5+4,none⟩=some (.int .i64 i4))) (by kernel_rfl) ?_ (fun hHeld=>?_)
  ·exact HSOF.out _ HTD.out.below HTD.out.b1
  have st:StH [0,2,3,4,5,6]:=trivial
  iterate 6
   refine tHL st (v:=?_) rfl ?_ ?_
   rotate_left 1
   ·(intro w' hSw;(try dsimp only at hSw);go_simp;try with_reducible rfl)
   replace st:=st.tl
   try simp only [qA,qB,qC,Act.put,qD,qE,qF]
  refine wpAnyH_ready (rs:=[1,7]) (by kernel_rfl) (by simp) ?_
  refine AllReadyH.cons (o:=_) rfl (fun K hK=>?_) (AllReadyH.cons (o:=_) rfl (fun K hK=>?_) AllReadyH.nil)
  ·skip
   go_simp
   refine hK.out _ _ ?_ (fun hHeld=>?_)
   ·((try dsimp only);first | with_reducible assumption | go_keep)
   clear hK K
   refine wH1 (i:=7) (by kernel_rfl) rfl fun K hK=>?_
   go_simp
   go_at_call 14;refine(HTO.out _).mono ?_;rintro e w9 ⟨rfl,hb9⟩;have HT9:=hD (HTD.out.up hb9);have e9:w9.cell? ⟨g3,3,none⟩=some vc:=HT9.out.b3.cell 3;have e1:=fun oo=>(HT9.out.b3.alloc oo).cell 3;obtain⟨v8,w8,hr8,HA8⟩:=zp1 slIns HT9.out.rc [.int .i64 i0,.int .i64 i1,.int .i64 i2,.int .i64 i3,.int .i64 i4] rfl (by intro u hu;simp only [List.mem_cons,List.not_mem_nil,or_false] at hu;rcases hu with rfl | rfl | rfl | rfl | rfl <;> rfl) (by have:=HLN.out;omega) HT9.out.below.size 33;obtain⟨A8,c8,hv8⟩:=HA8.out.form;subst hv8;obtain⟨hT8,z0,z1⟩:=HT9.out.putc HA8.out;rw [← HTK.out,HLN.out] at hT8;rw [HLN.out] at hr8;have HT8:=hD hT8;have HS8:=hD (HSOF.out w8 (HT9.out.below.trans (HA8.out.fr.below HT9.out.below.size (fun k hk=>(own_ge HT9.out.rc hk).1))) (HT9.out.b1.fr HA8.out.fr (fun e=>zb HT9.out.rc HT9.out.b1 (by decide) _ e rfl)));have HR9:=hD hr8;clear hr8 hT8 HA8 hb9
   refine hK.out _ _ ?_ (fun hHeld=>?_)
   ·exact HSOF.out _ HT9.out.below HT9.out.b1
   clear hK K
   refine wH1 (i:=8) (by kernel_rfl) rfl fun K hK=>?_
   refine zi1 (HBS.out _) rfl _ rfl (by kernel_rfl) ?_
   refine hK.out _ _ ?_ (fun hHeld=>?_)
   ·exact HSOF.out _ (HT9.out.up (za _ _)).below (HT9.out.up (za _ _)).b1
   clear hK K
   refine wH1 (i:=9) (by kernel_rfl) rfl fun K hK=>?_
   refine zi HR9.out rfl _ _ rfl rfl rfl ?_
   refine hK.out _ _ ?_ (fun hHeld=>?_)
   ·exact HS8.out
   clear hK K
   try simp only [qA,qB,qC,Act.put,qD,qE,qF]
   refine tHH (i:=10) (v:=?_) rfl ?_ ?_
   rotate_left 1
   ·(intro w' hSw;(try dsimp only at hSw);go_simp;try with_reducible rfl)
   try simp only [qA,qB,qC,Act.put,qD,qE,qF]
   refine wH1 (i:=11) (by kernel_rfl) rfl fun K hK=>?_
   go_simp
   refine hK.out _ _ ?_ (fun hHeld=>?_)
   ·exact HSOF.out _ HT8.out.below HT8.out.b1
   clear hK K
   refine wpAnyH_done (by kernel_rfl) ?_ _
   go_wp2_with fail
   go_roundw
   case rel=>exact⟨k+1,_,by omega,by go_num,HT8⟩
   case measure=>simp [intOf];omega
  ·skip
   go_simp
   go_at_call 14;refine(HTO.out _).mono ?_;rintro e w9 ⟨rfl,hb9⟩;have HT9:=hD (HTD.out.up hb9);have e9:w9.cell? ⟨g3,3,none⟩=some vc:=HT9.out.b3.cell 3;have e1:=fun oo=>(HT9.out.b3.alloc oo).cell 3;obtain⟨v8,w8,hr8,HA8⟩:=zp1 slIns HT9.out.rc [.int .i64 i0,.int .i64 i1,.int .i64 i2,.int .i64 i3,.int .i64 i4] rfl (by intro u hu;simp only [List.mem_cons,List.not_mem_nil,or_false] at hu;rcases hu with rfl | rfl | rfl | rfl | rfl <;> rfl) (by have:=HLN.out;omega) HT9.out.below.size 33;obtain⟨A8,c8,hv8⟩:=HA8.out.form;subst hv8;obtain⟨hT8,z0,z1⟩:=HT9.out.putc HA8.out;rw [← HTK.out,HLN.out] at hT8;rw [HLN.out] at hr8;have HT8:=hD hT8;have HS8:=hD (HSOF.out w8 (HT9.out.below.trans (HA8.out.fr.below HT9.out.below.size (fun k hk=>(own_ge HT9.out.rc hk).1))) (HT9.out.b1.fr HA8.out.fr (fun e=>zb HT9.out.rc HT9.out.b1 (by decide) _ e rfl)));have HR9:=hD hr8;clear hr8 hT8 HA8 hb9
   refine hK.out _ _ ?_ (fun hHeld=>?_)
   ·exact HSOF.out _ HT9.out.below HT9.out.b1
   clear hK K
   refine wpAnyH_ready (rs:=[1,8]) (by kernel_rfl) (by simp) ?_
   refine AllReadyH.cons (o:=_) rfl (fun K hK=>?_) (AllReadyH.cons (o:=_) rfl (fun K hK=>?_) AllReadyH.nil)
   ·skip
    go_simp
    refine hK.out _ _ ?_ (fun hHeld=>?_)
    ·((try dsimp only);first | with_reducible assumption | go_keep)
    clear hK K
    refine wH1 (i:=8) (by kernel_rfl) rfl fun K hK=>?_
    refine zi1 (HBS.out _) rfl _ rfl (by kernel_rfl) ?_
    refine hK.out _ _ ?_ (fun hHeld=>?_)
    ·exact HSOF.out _ (HT9.out.up (za _ _)).below (HT9.out.up (za _ _)).b1
    clear hK K
    refine wH1 (i:=9) (by kernel_rfl) rfl fun K hK=>?_
    refine zi HR9.out rfl _ _ rfl rfl rfl ?_
    refine hK.out _ _ ?_ (fun hHeld=>?_)
    ·exact HS8.out
    clear hK K
    try simp only [qA,qB,qC,Act.put,qD,qE,qF]
    refine tHH (i:=10) (v:=?_) rfl ?_ ?_
    rotate_left 1
    ·(intro w' hSw;(try dsimp only at hSw);go_simp;try with_reducible rfl)
    try simp only [qA,qB,qC,Act.put,qD,qE,qF]
    refine wH1 (i:=11) (by kernel_rfl) rfl fun K hK=>?_
    go_simp
    refine hK.out _ _ ?_ (fun hHeld=>?_)
    ·exact HSOF.out _ HT8.out.below HT8.out.b1
    clear hK K
    refine wpAnyH_done (by kernel_rfl) ?_ _
    go_wp2_with fail
    go_roundw
    case rel=>exact⟨k+1,_,by omega,by go_num,HT8⟩
    case measure=>simp [intOf];omega
   ·skip
    refine zi1 (HBS.out _) rfl _ rfl (by kernel_rfl) ?_
    refine hK.out _ _ ?_ (fun hHeld=>?_)
    ·exact HSOF.out _ (HT9.out.up (za _ _)).below (HT9.out.up (za _ _)).b1
    clear hK K
    refine wH1 (i:=1) (by kernel_rfl) rfl fun K hK=>?_
    go_simp
    refine hK.out _ _ ?_ (fun hHeld=>?_)
    ·((try dsimp only);first | with_reducible assumption | go_keep)
    clear hK K
    refine wH1 (i:=9) (by kernel_rfl) rfl fun K hK=>?_
    refine zi HR9.out rfl _ _ rfl rfl rfl ?_
    refine hK.out _ _ ?_ (fun hHeld=>?_)
    ·exact HS8.out
    clear hK K
    try simp only [qA,qB,qC,Act.put,qD,qE,qF]
    refine tHH (i:=10) (v:=?_) rfl ?_ ?_
    rotate_left 1
    ·(intro w' hSw;(try dsimp only at hSw);go_simp;try with_reducible rfl)
    try simp only [qA,qB,qC,Act.put,qD,qE,qF]
    refine wH1 (i:=11) (by kernel_rfl) rfl fun K hK=>?_
    go_simp
    refine hK.out _ _ ?_ (fun hHeld=>?_)
    ·exact HSOF.out _ HT8.out.below HT8.out.b1
    clear hK K
    refine wpAnyH_done (by kernel_rfl) ?_ _
    go_wp2_with fail
    go_roundw
    case rel=>exact⟨k+1,_,by omega,by go_num,HT8⟩
    case measure=>simp [intOf];omega
 obtain rfl:k=o.code.length:=by omega
 rw [List.take_length] at HT
 obtain⟨Af,cf,hvf,_⟩:=zl HT.out.rf
 obtain⟨Ap,cp,hvp,_⟩:=zl HT.out.rp
 obtain⟨Ac,cc,hvc,_⟩:=zl HT.out.rc
 subst hvf hvp hvc
 have b0:wr.cell? ⟨w.heap.size+1,0,none⟩=some (.slice none 0 0):=HT.out.b2.cell 0
 have b1:wr.cell? ⟨w.heap.size+1,1,none⟩=some (.slice none 0 0):=HT.out.b2.cell 1
 have b2:wr.cell? ⟨w.heap.size+1,2,none⟩=some (.slice none 0 0):=HT.out.b2.cell 2
 have b3:wr.cell? ⟨w.heap.size+1,3,none⟩=some (.slice none 0 0):=HT.out.b2.cell 3
 have z0:wr.frozen? ⟨w.heap.size+1,0,none⟩=false:=HT.out.b2.frozen 0
 have z1:wr.frozen? ⟨w.heap.size+1,1,none⟩=false:=HT.out.b2.frozen 1
 have z2:wr.frozen? ⟨w.heap.size+1,2,none⟩=false:=HT.out.b2.frozen 2
 have z3:wr.frozen? ⟨w.heap.size+1,3,none⟩=false:=HT.out.b2.frozen 3
 have o0:=HT.out.b3.cell 0
 have o1:=HT.out.b3.cell 1
 have o2:=HT.out.b3.cell 2
 have o3:=HT.out.b3.cell 3
 go_wp2
 refine zy8 HT.out.b2 (by intro W c0 c1 c2 c3;simp [results,Tryz.results7,go_sem,c0,c1,c2,c3]) ?_
 intro W hW hF
 refine⟨_,_,_,_,rfl,⟨?_,?_,?_,?_⟩,HT.out.below.trans (hF.below HT.out.below.size (fun k hk=>by omega)),own_nil HT.out.ra⟩
 ·exact CellsAt.of_own (own_fr HT.out.ra hF (fun k hk e=>zb HT.out.ra HT.out.b2 (by decide) k hk e)) (by decide)
 ·exact CellsAt.of_own (own_fr HT.out.rf hF (fun k hk e=>zb HT.out.rf HT.out.b2 (by decide) k hk e)) (by decide)
 ·exact CellsAt.of_own (own_fr HT.out.rp hF (fun k hk e=>zb HT.out.rp HT.out.b2 (by decide) k hk e)) (by decide)
 ·exact CellsAt.of_own (own_fr HT.out.rc hF (fun k hk e=>zb HT.out.rc HT.out.b2 (by decide) k hk e)) (by decide)
end Go.Proofs.YtlmbiafloiompaaGreatDoor
