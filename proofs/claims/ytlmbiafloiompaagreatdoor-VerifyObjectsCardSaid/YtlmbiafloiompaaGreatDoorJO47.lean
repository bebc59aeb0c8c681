/-
 The document's Same: are two objects the same? Conditions: lengths are such as may be.
-/
import Derived.Test.YtlmbiafloiompaaGreatDoorJO31
import Derived.Test.YtlmbiafloiompaaGreatDoorJO06
set_option linter.unusedVariables false
set_option linter.unusedSimpArgs false
namespace Go.Proofs.YtlmbiafloiompaaGreatDoor
open Go Go.RowKit Go.WideShapes Go.ChangeShapes
theorem eq_four8 (a b c d a' b' c' d':Int) (w:World):(Op.equalIn 9999 52 (.agg #[.int .i64 a,.int .i64 b,.int .i64 c,.int .i64 d]) (.agg #[.int .i64 a',.int .i64 b',.int .i64 c',.int .i64 d'])).run Tryz.prog w=.ok (a == a' && b == b' && c == c' && d == d') w:=by
 have u3:=Tryz.underlying3
 have a3:∀ w,(isAgg 3).run Tryz.prog w=.ok false w:=fun _=>by kernel_rfl
 have z3:∀ w,(sizeOf 3).run Tryz.prog w=.ok 1 w:=fun _=>by kernel_rfl
 rw [show(9999:Nat)=9998+1 from rfl,Op.equalIn]
 simp only [Sem.run_bind,run_underlying Tryz.underlying52,Result.andThen_ok]
 simp only [Std.Legacy.Range.forIn_eq_forIn_range',Std.Legacy.Range.size,Nat.sub_zero,Nat.add_sub_cancel,Nat.div_one,List.range'_succ,List.range'_zero,List.forIn_cons,List.forIn_nil]
 go_simp
 by_cases h1:a=a' <;> by_cases h2:b=b' <;> by_cases h3:c=c' <;> by_cases h4:d=d' <;> simp [h1,h2,h3,h4]
structure Sm (w wr:World) (g g2:Nat) (us us2:Array Value):Prop where
 ob:Box wr g 27 us
 ob2:Box wr g2 27 us2
 below:Below w.heap.size w wr
theorem Sm.up {w wr w':World} {g g2:Nat} {us us2:Array Value} (h:Sm w wr g g2 us us2) (hb:Below wr.heap.size wr w'):Sm w w' g g2 us us2:=⟨h.ob.below hb h.ob.lt,h.ob2.below hb h.ob2.lt,h.below.trans (hb.mono h.below.size)⟩
theorem Sm.drewN {w wr:World} {g g2:Nat} {us us2:Array Value} (h:Sm w wr g g2 us us2) (n:Nat):Sm w (wr.drewN n) g g2 us us2:=⟨h.ob.drewN n,h.ob2.drewN n,h.below.trans ⟨rfl,rfl,rfl,Nat.le_refl _,fun _ _=>rfl⟩⟩
theorem Sm.new (w:World) (us us2:Array Value):Sm w ((w.alloc (.cells us 27)).alloc (.cells us2 27)) w.heap.size (w.heap.size+1) us us2:=
 ⟨(Box.new w _ _).alloc _,by have:=Box.new (w.alloc (.cells us 27)) 27 us2;rwa [World.size_alloc] at this,(za w _).trans ((za _ _).mono (by rw [World.size_alloc];omega))⟩
theorem zs3 {α:Type} {l m:List α} {k:Nat} (h:k<l.length) (h2:k<m.length) (ht:l.take k=m.take k) (he:l[k]=m[k]):l.take (k+1)=m.take (k+1):=by
 rw [List.take_succ_eq_append_getElem h,List.take_succ_eq_append_getElem h2,ht,he]
theorem zl4 {α:Type} {l m:List α} (h:l.length=m.length) (ht:l.take l.length=m.take l.length):l=m:=by
 rwa [List.take_length,h,List.take_length] at ht
theorem ne_at {α:Type} {l m:List α} {k:Nat} (h:k<l.length) (h2:k<m.length) (he:¬ l[k]=m[k]):l≠m:=by
 rintro rfl
 exact he rfl
set_option maxRecDepth 100000 in
set_option maxHeartbeats 16000000 in
theorem rsame_any (o o2:Ob) (ho:ObWf o) (va vf vp vc ua uf up uc:Value) (w:World) (hv:ObAt w va vf vp vc o) (hu:ObAt w ua uf up uc o2) :
  Calls Tryz.prog 10 #[.agg #[va,vf,vp,vc],.agg #[ua,uf,up,uc]] w fun e w'=>e=.returned (.bool (decide (o=o2)))∧Below w.heap.size w w':=by
 obtain⟨A1,c1,rfl⟩:=CellsAt.form hv.atoms
 obtain⟨A2,c2,rfl⟩:=CellsAt.form hv.funs
 obtain⟨A3,c3,rfl⟩:=CellsAt.form hv.preds
 obtain⟨A4,c4,rfl⟩:=CellsAt.form hv.code
 obtain⟨B1,d1,rfl⟩:=CellsAt.form hu.atoms
 obtain⟨B2,d2,rfl⟩:=CellsAt.form hu.funs
 obtain⟨B3,d3,rfl⟩:=CellsAt.form hu.preds
 obtain⟨B4,d4,rfl⟩:=CellsAt.form hu.code
 have HV:=hD hv
 have HU:=hD hu
 have HL:Hid (o.atoms.length≤1000000∧o.funs.length≤1000000∧o.preds.length≤1000000∧o.code.length≤1000000):=hD ⟨ho.la,ho.lf,ho.lp,ho.lc⟩
 have HNO:Hid (o.atoms≠o2.atoms ∨ o.funs≠o2.funs ∨ o.preds≠o2.preds ∨ o.code≠o2.code→decide (o=o2)=false):=hD (fun h=>by
  rw [decide_eq_false_iff_not]
  rintro rfl
  simp at h)
 have HYES:Hid (o.atoms=o2.atoms→o.funs=o2.funs→o.preds=o2.preds→o.code=o2.code→decide (o=o2)=true):=hD (fun h1 h2 h3 h4=>by
  rw [decide_eq_true_eq]
  cases o
  cases o2
  simp only [Ob.mk.injEq]
  exact⟨h1,h2,h3,h4⟩)
 generalize decide (o=o2)=r at HNO HYES
 clear hv hu ho
 by_cases e0:o.atoms.length=o2.atoms.length
 case neg=>
  have HX:=hD (HNO.out (.inl (fun h=>e0 (by rw [h]))))
  have hne:((o.atoms.length:Int) != (o2.atoms.length:Int))=true:=by simp;omega
  have hne2:((o.atoms.length:Int) == (o2.atoms.length:Int))=false:=by simp;omega
  clear e0
  have K0:=hD (Sm.new w #[.slice A1 o.atoms.length c1,.slice A2 o.funs.length c2,.slice A3 o.preds.length c3,.slice A4 o.code.length c4] #[.slice B1 o2.atoms.length d1,.slice B2 o2.funs.length d2,.slice B3 o2.preds.length d3,.slice B4 o2.code.length d4])
  go_enter Tryz.func10,Tryz.ntmps10
  go_upto_region 1 with(fail)
  obtain⟨w1,hw1⟩:∃ w1,(w.alloc (.cells #[.slice A1 o.atoms.length c1,.slice A2 o.funs.length c2,.slice A3 o.preds.length c3,.slice A4 o.code.length c4] 27)).alloc (.cells #[.slice B1 o2.atoms.length d1,.slice B2 o2.funs.length d2,.slice B3 o2.preds.length d3,.slice B4 o2.code.length d4] 27)=w1:=⟨_,rfl⟩
  rw [hw1] at K0 ⊢
  obtain⟨g,hg⟩:∃ g,w.heap.size=g:=⟨_,rfl⟩
  obtain⟨g2,hg2⟩:∃ g2,w.heap.size+1=g2:=⟨_,rfl⟩
  rw [hg2,hg] at K0
  rw [show({ block:=w.heap.size,off:=0 }:Addr)={ block:=g,off:=0 } by rw [hg],show({ block:=w.heap.size+1,off:=0 }:Addr)={ block:=g2,off:=0 } by rw [hg2]]
  clear hw1 hg hg2
  have q0:=K0.out.ob.cell 0
  have p0:=K0.out.ob2.cell 0
  have q1:=K0.out.ob.cell 1
  have p1:=K0.out.ob2.cell 1
  have q2:=K0.out.ob.cell 2
  have p2:=K0.out.ob2.cell 2
  have q3:=K0.out.ob.cell 3
  have p3:=K0.out.ob2.cell 3
  go_wp2
  go_ret
  exact⟨by rw [HX.out];rfl,K0.out.below⟩
 have E0:=hD e0
 rw [← e0]
 clear e0
 by_cases e1:o.funs.length=o2.funs.length
 case neg=>
  have HX:=hD (HNO.out (.inr (.inl (fun h=>e1 (by rw [h])))))
  have hne:((o.funs.length:Int) != (o2.funs.length:Int))=true:=by simp;omega
  have hne2:((o.funs.length:Int) == (o2.funs.length:Int))=false:=by simp;omega
  clear e1
  have K0:=hD (Sm.new w #[.slice A1 o.atoms.length c1,.slice A2 o.funs.length c2,.slice A3 o.preds.length c3,.slice A4 o.code.length c4] #[.slice B1 o.atoms.length d1,.slice B2 o2.funs.length d2,.slice B3 o2.preds.length d3,.slice B4 o2.code.length d4])
  go_enter Tryz.func10,Tryz.ntmps10
  go_upto_region 1 with(fail)
  obtain⟨w1,hw1⟩:∃ w1,(w.alloc (.cells #[.slice A1 o.atoms.length c1,.slice A2 o.funs.length c2,.slice A3 o.preds.length c3,.slice A4 o.code.length c4] 27)).alloc (.cells #[.slice B1 o.atoms.length d1,.slice B2 o2.funs.length d2,.slice B3 o2.preds.length d3,.slice B4 o2.code.length d4] 27)=w1:=⟨_,rfl⟩
  rw [hw1] at K0 ⊢
  obtain⟨g,hg⟩:∃ g,w.heap.size=g:=⟨_,rfl⟩
  obtain⟨g2,hg2⟩:∃ g2,w.heap.size+1=g2:=⟨_,rfl⟩
  rw [hg2,hg] at K0
  rw [show({ block:=w.heap.size,off:=0 }:Addr)={ block:=g,off:=0 } by rw [hg],show({ block:=w.heap.size+1,off:=0 }:Addr)={ block:=g2,off:=0 } by rw [hg2]]
  clear hw1 hg hg2
  have q0:=K0.out.ob.cell 0
  have p0:=K0.out.ob2.cell 0
  have q1:=K0.out.ob.cell 1
  have p1:=K0.out.ob2.cell 1
  have q2:=K0.out.ob.cell 2
  have p2:=K0.out.ob2.cell 2
  have q3:=K0.out.ob.cell 3
  have p3:=K0.out.ob2.cell 3
  go_wp2
  go_ret
  exact⟨by rw [HX.out];rfl,K0.out.below⟩
 have E1:=hD e1
 rw [← e1]
 clear e1
 by_cases e2:o.preds.length=o2.preds.length
 case neg=>
  have HX:=hD (HNO.out (.inr (.inr (.inl (fun h=>e2 (by rw [h]))))))
  have hne:((o.preds.length:Int) != (o2.preds.length:Int))=true:=by simp;omega
  have hne2:((o.preds.length:Int) == (o2.preds.length:Int))=false:=by simp;omega
  clear e2
  have K0:=hD (Sm.new w #[.slice A1 o.atoms.length c1,.slice A2 o.funs.length c2,.slice A3 o.preds.length c3,.slice A4 o.code.length c4] #[.slice B1 o.atoms.length d1,.slice B2 o.funs.length d2,.slice B3 o2.preds.length d3,.slice B4 o2.code.length d4])
  go_enter Tryz.func10,Tryz.ntmps10
  go_upto_region 1 with(fail)
  obtain⟨w1,hw1⟩:∃ w1,(w.alloc (.cells #[.slice A1 o.atoms.length c1,.slice A2 o.funs.length c2,.slice A3 o.preds.length c3,.slice A4 o.code.length c4] 27)).alloc (.cells #[.slice B1 o.atoms.length d1,.slice B2 o.funs.length d2,.slice B3 o2.preds.length d3,.slice B4 o2.code.length d4] 27)=w1:=⟨_,rfl⟩
  rw [hw1] at K0 ⊢
  obtain⟨g,hg⟩:∃ g,w.heap.size=g:=⟨_,rfl⟩
  obtain⟨g2,hg2⟩:∃ g2,w.heap.size+1=g2:=⟨_,rfl⟩
  rw [hg2,hg] at K0
  rw [show({ block:=w.heap.size,off:=0 }:Addr)={ block:=g,off:=0 } by rw [hg],show({ block:=w.heap.size+1,off:=0 }:Addr)={ block:=g2,off:=0 } by rw [hg2]]
  clear hw1 hg hg2
  have q0:=K0.out.ob.cell 0
  have p0:=K0.out.ob2.cell 0
  have q1:=K0.out.ob.cell 1
  have p1:=K0.out.ob2.cell 1
  have q2:=K0.out.ob.cell 2
  have p2:=K0.out.ob2.cell 2
  have q3:=K0.out.ob.cell 3
  have p3:=K0.out.ob2.cell 3
  go_wp2
  go_ret
  exact⟨by rw [HX.out];rfl,K0.out.below⟩
 have E2:=hD e2
 rw [← e2]
 clear e2
 by_cases e3:o.code.length=o2.code.length
 case neg=>
  have HX:=hD (HNO.out (.inr (.inr (.inr (fun h=>e3 (by rw [h]))))))
  have hne:((o.code.length:Int) != (o2.code.length:Int))=true:=by simp;omega
  have hne2:((o.code.length:Int) == (o2.code.length:Int))=false:=by simp;omega
  clear e3
  have K0:=hD (Sm.new w #[.slice A1 o.atoms.length c1,.slice A2 o.funs.length c2,.slice A3 o.preds.length c3,.slice A4 o.code.length c4] #[.slice B1 o.atoms.length d1,.slice B2 o.funs.length d2,.slice B3 o.preds.length d3,.slice B4 o2.code.length d4])
  go_enter Tryz.func10,Tryz.ntmps10
  go_upto_region 1 with(fail)
  obtain⟨w1,hw1⟩:∃ w1,(w.alloc (.cells #[.slice A1 o.atoms.length c1,.slice A2 o.funs.length c2,.slice A3 o.preds.length c3,.slice A4 o.code.length c4] 27)).alloc (.cells #[.slice B1 o.atoms.length d1,.slice B2 o.funs.length d2,.slice B3 o.preds.length d3,.slice B4 o2.code.length d4] 27)=w1:=⟨_,rfl⟩
  rw [hw1] at K0 ⊢
  obtain⟨g,hg⟩:∃ g,w.heap.size=g:=⟨_,rfl⟩
  obtain⟨g2,hg2⟩:∃ g2,w.heap.size+1=g2:=⟨_,rfl⟩
  rw [hg2,hg] at K0
  rw [show({ block:=w.heap.size,off:=0 }:Addr)={ block:=g,off:=0 } by rw [hg],show({ block:=w.heap.size+1,off:=0 }:Addr)={ block:=g2,off:=0 } by rw [hg2]]
  clear hw1 hg hg2
  have q0:=K0.out.ob.cell 0
  have p0:=K0.out.ob2.cell 0
  have q1:=K0.out.ob.cell 1
  have p1:=K0.out.ob2.cell 1
  have q2:=K0.out.ob.cell 2
  have p2:=K0.out.ob2.cell 2
  have q3:=K0.out.ob.cell 3
  have p3:=K0.out.ob2.cell 3
  go_wp2
  go_ret
  exact⟨by rw [HX.out];rfl,K0.out.below⟩
 have E3:=hD e3
 rw [← e3]
 clear e3
 have K0:=hD (Sm.new w #[.slice A1 o.atoms.length c1,.slice A2 o.funs.length c2,.slice A3 o.preds.length c3,.slice A4 o.code.length c4] #[.slice B1 o.atoms.length d1,.slice B2 o.funs.length d2,.slice B3 o.preds.length d3,.slice B4 o.code.length d4])
 go_enter Tryz.func10,Tryz.ntmps10
 go_upto_region 1 with(fail)
 obtain⟨w1,hw1⟩:∃ w1,(w.alloc (.cells #[.slice A1 o.atoms.length c1,.slice A2 o.funs.length c2,.slice A3 o.preds.length c3,.slice A4 o.code.length c4] 27)).alloc (.cells #[.slice B1 o.atoms.length d1,.slice B2 o.funs.length d2,.slice B3 o.preds.length d3,.slice B4 o.code.length d4] 27)=w1:=⟨_,rfl⟩
 rw [hw1] at K0 ⊢
 obtain⟨g,hg⟩:∃ g,w.heap.size=g:=⟨_,rfl⟩
 obtain⟨g2,hg2⟩:∃ g2,w.heap.size+1=g2:=⟨_,rfl⟩
 rw [hg2,hg] at K0
 rw [show({ block:=w.heap.size,off:=0 }:Addr)={ block:=g,off:=0 } by rw [hg],show({ block:=w.heap.size+1,off:=0 }:Addr)={ block:=g2,off:=0 } by rw [hg2]]
 clear hw1 hg hg2
 have q0:=K0.out.ob.cell 0
 have p0:=K0.out.ob2.cell 0
 have q1:=K0.out.ob.cell 1
 have p1:=K0.out.ob2.cell 1
 have q2:=K0.out.ob.cell 2
 have p2:=K0.out.ob2.cell 2
 have q3:=K0.out.ob.cell 3
 have p3:=K0.out.ob2.cell 3
 go_wp2
 clear q0 q1 q2 q3 p0 p1 p2 p3
 go_loopw [5] (fun i wr=>∃ k:Nat,k≤o.atoms.length∧i=.int .i64 k∧Hid (o.atoms.take k=o2.atoms.take k)∧Hid (Sm w wr g g2 #[.slice A1 o.atoms.length c1,.slice A2 o.funs.length c2,.slice A3 o.preds.length c3,.slice A4 o.code.length c4] #[.slice B1 o.atoms.length d1,.slice B2 o.funs.length d2,.slice B3 o.preds.length d3,.slice B4 o.code.length d4])) (fun i _=>o.atoms.length - (intOf i).toNat)
 case atStart=>exact⟨0,by omega,rfl,hD (by simp),K0⟩
 obtain⟨k,hk,rfl,HT,HK⟩:=hrel
 clear K0
 have hlen:=HL.out.1
 have q0:=HK.out.ob.cell 0
 have p0:=HK.out.ob2.cell 0
 by_cases hlt:k<o.atoms.length
 case pos=>
  have hlt2:k<o2.atoms.length:=by rw [← E0.out];exact hlt
  obtain⟨b,off,rfl,hb,hc0⟩:=zf3 HV.out.atoms k hlt
  obtain⟨b2,off2,rfl,hb2,he0⟩:=zf3 HU.out.atoms k hlt2
  have a0:=(HK.out.below.cell (p:=⟨b,off+k,none⟩) hb).trans hc0
  have f0:=(HK.out.below.cell (p:=⟨b2,off2+k,none⟩) hb2).trans he0
  clear hc0 he0
  have HNE:Hid (¬ (o.atoms[k]=o2.atoms[k])→r=false):=hD (fun h=>HNO.out (.inl (ne_at hlt hlt2 (fun h2=>h (h2)))))
  have HEQ:Hid ((o.atoms[k]=o2.atoms[k])→o.atoms.take (k+1)=o2.atoms.take (k+1)):=hD (fun h=>zs3 hlt hlt2 HT.out h)
  generalize o.atoms[k]=x0 at a0 HNE HEQ
  generalize o2.atoms[k]=y0 at f0 HNE HEQ
  by_cases hx:x0=y0
  case neg=>
   have hst:=zz1 hx
   have HX:=hD (HNE.out (hx))
   go_upto_region 6 with(fail)
   go_quiet (fail)
   go_wp2
   go_ret
   exact⟨by rw [HX.out];rfl,(HK.out.drewN _).below⟩
  subst hx
  have HT2:=hD (HEQ.out rfl)
  go_upto_region 6 with(fail)
  go_quiet (fail)
  have HK3:=hD (HK.out.drewN nq)
  go_wp2
  go_roundw
  case rel=>first | exact⟨k+1,by omega,by go_num,HT2,HK3⟩ | exact⟨_,_,_,_,_,_,_,_,_,_,_,⟨k+1,by omega,by go_num,HT2,HK3⟩,rfl⟩
  case measure=>simp [intOf];omega
 obtain rfl:k=o.atoms.length:=by omega
 have Q0:=hD (zl4 E0.out HT.out)
 clear hlt HT
 go_wp2
 clear q0 p0 hlen
 have K1:=HK
 clear HK
 go_loopw [6] (fun i wr=>∃ k:Nat,k≤o.funs.length∧i=.int .i64 k∧Hid (o.funs.take k=o2.funs.take k)∧Hid (Sm w wr g g2 #[.slice A1 o.atoms.length c1,.slice A2 o.funs.length c2,.slice A3 o.preds.length c3,.slice A4 o.code.length c4] #[.slice B1 o.atoms.length d1,.slice B2 o.funs.length d2,.slice B3 o.preds.length d3,.slice B4 o.code.length d4])) (fun i _=>o.funs.length - (intOf i).toNat)
 case atStart=>exact⟨0,by omega,rfl,hD (by simp),K1⟩
 obtain⟨k,hk,rfl,HT,HK⟩:=hrel
 clear K1
 have hlen:=HL.out.2.1
 have q0:=HK.out.ob.cell 1
 have p0:=HK.out.ob2.cell 1
 by_cases hlt:k<o.funs.length
 case pos=>
  have hlt2:k<o2.funs.length:=by rw [← E1.out];exact hlt
  obtain⟨b,off,rfl,hb,hc0,hc1⟩:=zy1 HV.out.funs k hlt
  obtain⟨b2,off2,rfl,hb2,he0,he1⟩:=zy1 HU.out.funs k hlt2
  have a0:=(HK.out.below.cell (p:=⟨b,off+k * 2,none⟩) hb).trans hc0
  have f0:=(HK.out.below.cell (p:=⟨b2,off2+k * 2,none⟩) hb2).trans he0
  have a1:=(HK.out.below.cell (p:=⟨b,off+k * 2+1,none⟩) hb).trans hc1
  have f1:=(HK.out.below.cell (p:=⟨b2,off2+k * 2+1,none⟩) hb2).trans he1
  clear hc0 he0 hc1 he1
  have HNE:Hid (¬ (o.funs[k].1=o2.funs[k].1∧o.funs[k].2=o2.funs[k].2)→r=false):=hD (fun h=>HNO.out (.inr (.inl (ne_at hlt hlt2 (fun h2=>h (by rw [h2];exact⟨rfl,rfl⟩))))))
  have HEQ:Hid ((o.funs[k].1=o2.funs[k].1∧o.funs[k].2=o2.funs[k].2)→o.funs.take (k+1)=o2.funs.take (k+1)):=hD (fun h=>zs3 hlt hlt2 HT.out (Prod.ext h.1 h.2))
  generalize o.funs[k].1=x0 at a0 HNE HEQ
  generalize o2.funs[k].1=y0 at f0 HNE HEQ
  generalize o.funs[k].2=x1 at a1 HNE HEQ
  generalize o2.funs[k].2=y1 at f1 HNE HEQ
  by_cases hx:x0=y0
  case neg=>
   have hst:(x0.toList=y0.toList)=False:=by have:=zz1 hx;simpa using this
   have HX:=hD (HNE.out (fun h=>hx h.1))
   go_upto_region 11 with(fail)
   go_quiet (fail)
   go_wp2
   go_ret
   exact⟨by rw [HX.out];rfl,(HK.out.drewN _).below⟩
  subst hx
  by_cases hx:x1=y1
  case neg=>
   have hnt:(x1=y1)=False:=by simp [hx]
   have HX:=hD (HNE.out (fun h=>hx h.2))
   go_upto_region 11 with(fail)
   go_quiet (fail)
   go_wp2
   go_ret
   exact⟨by rw [HX.out];rfl,(HK.out.drewN _).below⟩
  subst hx
  have HT2:=hD (HEQ.out ⟨rfl,rfl⟩)
  go_upto_region 11 with(fail)
  go_quiet (fail)
  have HK3:=hD (HK.out.drewN nq)
  go_wp2
  go_roundw
  case rel=>first | exact⟨k+1,by omega,by go_num,HT2,HK3⟩ | exact⟨_,_,_,_,_,_,_,_,_,_,_,⟨k+1,by omega,by go_num,HT2,HK3⟩,rfl⟩
  case measure=>simp [intOf];omega
 obtain rfl:k=o.funs.length:=by omega
 have Q1:=hD (zl4 E1.out HT.out)
 clear hlt HT
 go_wp2
 clear q0 p0 hlen
 have K2:=HK
 clear HK
 go_loopw [7] (fun i wr=>∃ k:Nat,k≤o.preds.length∧i=.int .i64 k∧Hid (o.preds.take k=o2.preds.take k)∧Hid (Sm w wr g g2 #[.slice A1 o.atoms.length c1,.slice A2 o.funs.length c2,.slice A3 o.preds.length c3,.slice A4 o.code.length c4] #[.slice B1 o.atoms.length d1,.slice B2 o.funs.length d2,.slice B3 o.preds.length d3,.slice B4 o.code.length d4])) (fun i _=>o.preds.length - (intOf i).toNat)
 case atStart=>exact⟨0,by omega,rfl,hD (by simp),K2⟩
 obtain⟨k,hk,rfl,HT,HK⟩:=hrel
 clear K2
 have hlen:=HL.out.2.2.1
 have q0:=HK.out.ob.cell 2
 have p0:=HK.out.ob2.cell 2
 by_cases hlt:k<o.preds.length
 case pos=>
  have hlt2:k<o2.preds.length:=by rw [← E2.out];exact hlt
  obtain⟨b,off,rfl,hb,hc0,hc1,hc2⟩:=zd1 HV.out.preds k hlt
  obtain⟨b2,off2,rfl,hb2,he0,he1,he2⟩:=zd1 HU.out.preds k hlt2
  have a0:=(HK.out.below.cell (p:=⟨b,off+k * 3,none⟩) hb).trans hc0
  have f0:=(HK.out.below.cell (p:=⟨b2,off2+k * 3,none⟩) hb2).trans he0
  have a1:=(HK.out.below.cell (p:=⟨b,off+k * 3+1,none⟩) hb).trans hc1
  have f1:=(HK.out.below.cell (p:=⟨b2,off2+k * 3+1,none⟩) hb2).trans he1
  have a2:=(HK.out.below.cell (p:=⟨b,off+k * 3+2,none⟩) hb).trans hc2
  have f2:=(HK.out.below.cell (p:=⟨b2,off2+k * 3+2,none⟩) hb2).trans he2
  clear hc0 he0 hc1 he1 hc2 he2
  have HNE:Hid (¬ (o.preds[k].1=o2.preds[k].1∧o.preds[k].2.1=o2.preds[k].2.1∧o.preds[k].2.2=o2.preds[k].2.2)→r=false):=hD (fun h=>HNO.out (.inr (.inr (.inl (ne_at hlt hlt2 (fun h2=>h (by rw [h2];exact⟨rfl,rfl,rfl⟩)))))))
  have HEQ:Hid ((o.preds[k].1=o2.preds[k].1∧o.preds[k].2.1=o2.preds[k].2.1∧o.preds[k].2.2=o2.preds[k].2.2)→o.preds.take (k+1)=o2.preds.take (k+1)):=hD (fun h=>zs3 hlt hlt2 HT.out (Prod.ext h.1 (Prod.ext h.2.1 h.2.2)))
  generalize o.preds[k].1=x0 at a0 HNE HEQ
  generalize o2.preds[k].1=y0 at f0 HNE HEQ
  generalize o.preds[k].2.1=x1 at a1 HNE HEQ
  generalize o2.preds[k].2.1=y1 at f1 HNE HEQ
  generalize o.preds[k].2.2=x2 at a2 HNE HEQ
  generalize o2.preds[k].2.2=y2 at f2 HNE HEQ
  by_cases hx:x0=y0
  case neg=>
   have hst:(x0.toList=y0.toList)=False:=by have:=zz1 hx;simpa using this
   have HX:=hD (HNE.out (fun h=>hx h.1))
   go_upto_region 16 with(fail)
   go_quiet (fail)
   go_wp2
   go_ret
   exact⟨by rw [HX.out];rfl,(HK.out.drewN _).below⟩
  subst hx
  by_cases hx:x1=y1
  case neg=>
   have hnt:(x1=y1)=False:=by simp [hx]
   have HX:=hD (HNE.out (fun h=>hx h.2.1))
   go_upto_region 16 with(fail)
   go_quiet (fail)
   go_wp2
   go_ret
   exact⟨by rw [HX.out];rfl,(HK.out.drewN _).below⟩
  subst hx
  by_cases hx:x2=y2
  case neg=>
   have hnt:(x2=y2)=False:=by simp [hx]
   have HX:=hD (HNE.out (fun h=>hx h.2.2))
   go_upto_region 16 with(fail)
   go_quiet (fail)
   go_wp2
   go_ret
   exact⟨by rw [HX.out];rfl,(HK.out.drewN _).below⟩
  subst hx
  have HT2:=hD (HEQ.out ⟨rfl,rfl,rfl⟩)
  go_upto_region 16 with(fail)
  go_quiet (fail)
  have HK3:=hD (HK.out.drewN nq)
  go_wp2
  go_roundw
  case rel=>first | exact⟨k+1,by omega,by go_num,HT2,HK3⟩ | exact⟨_,_,_,_,_,_,_,_,_,_,_,⟨k+1,by omega,by go_num,HT2,HK3⟩,rfl⟩
  case measure=>simp [intOf];omega
 obtain rfl:k=o.preds.length:=by omega
 have Q2:=hD (zl4 E2.out HT.out)
 clear hlt HT
 go_wp2
 clear q0 p0 hlen
 have K3:=HK
 clear HK
 go_loopw [8] (fun i wr=>∃ k:Nat,k≤o.code.length∧i=.int .i64 k∧Hid (o.code.take k=o2.code.take k)∧Hid (Sm w wr g g2 #[.slice A1 o.atoms.length c1,.slice A2 o.funs.length c2,.slice A3 o.preds.length c3,.slice A4 o.code.length c4] #[.slice B1 o.atoms.length d1,.slice B2 o.funs.length d2,.slice B3 o.preds.length d3,.slice B4 o.code.length d4])) (fun i _=>o.code.length - (intOf i).toNat)
 case atStart=>exact⟨0,by omega,rfl,hD (by simp),K3⟩
 obtain⟨k,hk,rfl,HT,HK⟩:=hrel
 clear K3
 have hlen:=HL.out.2.2.2
 have q0:=HK.out.ob.cell 3
 have p0:=HK.out.ob2.cell 3
 by_cases hlt:k<o.code.length
 case pos=>
  have hlt2:k<o2.code.length:=by rw [← E3.out];exact hlt
  obtain⟨b,off,rfl,hb,hc0,hc1,hc2,hc3,hc4⟩:=zm3 HV.out.code k hlt
  obtain⟨b2,off2,rfl,hb2,he0,he1,he2,he3,he4⟩:=zm3 HU.out.code k hlt2
  have a0:=(HK.out.below.cell (p:=⟨b,off+k * 5,none⟩) hb).trans hc0
  have f0:=(HK.out.below.cell (p:=⟨b2,off2+k * 5,none⟩) hb2).trans he0
  have a1:=(HK.out.below.cell (p:=⟨b,off+k * 5+1,none⟩) hb).trans hc1
  have f1:=(HK.out.below.cell (p:=⟨b2,off2+k * 5+1,none⟩) hb2).trans he1
  have a2:=(HK.out.below.cell (p:=⟨b,off+k * 5+2,none⟩) hb).trans hc2
  have f2:=(HK.out.below.cell (p:=⟨b2,off2+k * 5+2,none⟩) hb2).trans he2
  have a3:=(HK.out.below.cell (p:=⟨b,off+k * 5+3,none⟩) hb).trans hc3
  have f3:=(HK.out.below.cell (p:=⟨b2,off2+k * 5+3,none⟩) hb2).trans he3
  have a4:=(HK.out.below.cell (p:=⟨b,off+k * 5+4,none⟩) hb).trans hc4
  have f4:=(HK.out.below.cell (p:=⟨b2,off2+k * 5+4,none⟩) hb2).trans he4
  clear hc0 he0 hc1 he1 hc2 he2 hc3 he3 hc4 he4
  have HNE:Hid (¬ (o.code[k].1=o2.code[k].1∧o.code[k].2.1=o2.code[k].2.1∧o.code[k].2.2.1=o2.code[k].2.2.1∧o.code[k].2.2.2.1=o2.code[k].2.2.2.1∧o.code[k].2.2.2.2=o2.code[k].2.2.2.2)→r=false):=hD (fun h=>HNO.out (.inr (.inr (.inr ((ne_at hlt hlt2 (fun h2=>h (by rw [h2];exact⟨rfl,rfl,rfl,rfl,rfl⟩))))))))
  have HEQ:Hid ((o.code[k].1=o2.code[k].1∧o.code[k].2.1=o2.code[k].2.1∧o.code[k].2.2.1=o2.code[k].2.2.1∧o.code[k].2.2.2.1=o2.code[k].2.2.2.1∧o.code[k].2.2.2.2=o2.code[k].2.2.2.2)→o.code.take (k+1)=o2.code.take (k+1)):=hD (fun h=>zs3 hlt hlt2 HT.out (Prod.ext h.1 (Prod.ext h.2.1 (Prod.ext h.2.2.1 (Prod.ext h.2.2.2.1 h.2.2.2.2)))))
  generalize o.code[k].1=x0 at a0 HNE HEQ
  generalize o2.code[k].1=y0 at f0 HNE HEQ
  generalize o.code[k].2.1=x1 at a1 HNE HEQ
  generalize o2.code[k].2.1=y1 at f1 HNE HEQ
  generalize o.code[k].2.2.1=x2 at a2 HNE HEQ
  generalize o2.code[k].2.2.1=y2 at f2 HNE HEQ
  generalize o.code[k].2.2.2.1=x3 at a3 HNE HEQ
  generalize o2.code[k].2.2.2.1=y3 at f3 HNE HEQ
  generalize o.code[k].2.2.2.2=x4 at a4 HNE HEQ
  generalize o2.code[k].2.2.2.2=y4 at f4 HNE HEQ
  by_cases hx:x0=y0
  case neg=>
   have hnt:(x0=y0)=False:=by simp [hx]
   have HX:=hD (HNE.out (fun h=>hx h.1))
   go_upto_region 21 with(fail)
   go_quiet (fail)
   go_wp2
   go_ret
   exact⟨by rw [HX.out];rfl,(HK.out.drewN _).below⟩
  subst hx
  have heq:=eq_four8 x1 x2 x3 x4 y1 y2 y3 y4
  by_cases hx:(x1=y1∧x2=y2∧x3=y3∧x4=y4)
  case neg=>
   have hq:(x1 == y1 && x2 == y2 && x3 == y3 && x4 == y4)=false:=by rw [Bool.eq_false_iff];intro h;simp at h;exact hx ⟨h.1.1.1,h.1.1.2,h.1.2,h.2⟩
   rw [hq] at heq
   have HX:=hD (HNE.out (fun h=>hx h.2))
   go_upto_region 21 with(fail)
   go_quiet (fail)
   go_wp2
   go_ret
   exact⟨by rw [HX.out];rfl,(HK.out.drewN _).below⟩
  obtain⟨rfl,rfl,rfl,rfl⟩:=hx
  have hq:(x1 == x1 && x2 == x2 && x3 == x3 && x4 == x4)=true:=by simp
  rw [hq] at heq
  have HT2:=hD (HEQ.out ⟨rfl,rfl,rfl,rfl,rfl⟩)
  go_upto_region 21 with(fail)
  go_quiet (fail)
  have HK3:=hD (HK.out.drewN nq)
  go_wp2
  go_roundw
  case rel=>first | exact⟨k+1,by omega,by go_num,HT2,HK3⟩ | exact⟨_,_,_,_,_,_,_,_,_,_,_,⟨k+1,by omega,by go_num,HT2,HK3⟩,rfl⟩
  case measure=>simp [intOf];omega
 obtain rfl:k=o.code.length:=by omega
 have Q3:=hD (zl4 E3.out HT.out)
 clear hlt HT
 go_wp2
 have HX:=hD (HYES.out Q0.out Q1.out Q2.out Q3.out)
 go_ret
 exact⟨by rw [HX.out];rfl,HK.out.below⟩
end Go.Proofs.YtlmbiafloiompaaGreatDoor
