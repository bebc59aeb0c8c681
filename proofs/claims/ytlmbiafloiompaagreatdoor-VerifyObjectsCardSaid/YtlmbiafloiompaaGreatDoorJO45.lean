/-
 The program's Program (walk),of whatever takePred that keeps its word. Conditions: lines of at most 1048576 bytes,at most 100000 of them.
-/
import Derived.Test.YtlmbiafloiompaaGreatDoorJO44
set_option linter.unusedVariables false
set_option linter.unusedSimpArgs false
namespace Go.Proofs.YtlmbiafloiompaaGreatDoor
open Go Go.RowKit Go.WideShapes Go.ChangeShapes
theorem zk4 {P:Program} {fn:Func} {Q:Ending→World→Prop} {T:Array Value} {w2:World} {G:Nat} {t:TypeId} {z0 z1 z2 z3 a b c d x y:Value} (hb:Box w2 G t #[z0,z1,z2,z3])
  (hres:∀ W:World,W.cell? ⟨G,0,none⟩=some a→W.cell? ⟨G,1,none⟩=some b→W.cell? ⟨G,2,none⟩=some c→W.cell? ⟨G,3,none⟩=some d→(results fn T).run P W=.ok (.tuple #[.agg #[a,b,c,d],x,y]) W)
  (hQ:∀ W:World,Box W G t #[a,b,c,d]→Fr (fun k=>k=G) w2 W→Q (.returned (.tuple #[.agg #[a,b,c,d],x,y])) W) :
  bodyPost P fn Q .ret { tmps:=T,defers:=[] } ((((w2.setCell ⟨G,0,none⟩ a).setCell ⟨G,1,none⟩ b).setCell ⟨G,2,none⟩ c).setCell ⟨G,3,none⟩ d):=by
 have h4:Box ((((w2.setCell ⟨G,0,none⟩ a).setCell ⟨G,1,none⟩ b).setCell ⟨G,2,none⟩ c).setCell ⟨G,3,none⟩ d) G t #[a,b,c,d]:=by
  have:=(((hb.set_ 0 a).set_ 1 b).set_ 2 c).set_ 3 d
  simpa using this
 have hf:Fr (fun k=>k=G) w2 ((((w2.setCell ⟨G,0,none⟩ a).setCell ⟨G,1,none⟩ b).setCell ⟨G,2,none⟩ c).setCell ⟨G,3,none⟩ d):=
  ((((Fr.refl (fun b=>b=G) w2).setCell (p:=⟨G,0,none⟩) (.inl rfl) _).setCell (p:=⟨G,1,none⟩) (.inl rfl) _).setCell (p:=⟨G,2,none⟩) (.inl rfl) _).setCell (p:=⟨G,3,none⟩) (.inl rfl) _
 exact bodyPost_ret (hres _ (h4.cell 0) (h4.cell 1) (h4.cell 2) (h4.cell 3)) rfl (hQ _ h4 hf)
theorem zu14 {n:Int} {l:List UInt8} {s:St} {c:Int} (h:lineStep n l s=.error c):c=17 ∨ c=11:=by
 unfold lineStep at h
 split at h
 ·unfold predLine at h
  split at h
  ·injection h with h;exact .inl h.symm
  ·split at h
   ·injection h with h;exact .inr h.symm
   ·cases h
 ·split at h
  ·unfold labelLine at h
   split at h
   ·injection h with h;exact .inl h.symm
   ·split at h
    ·injection h with h;exact .inr h.symm
    ·cases h
  ·unfold instrLine at h
   split at h
   ·injection h with h;exact .inl h.symm
   ·split at h
    ·injection h with h;exact .inl h.symm
    ·cases h
theorem zq20 {labs:List (Int × Int)} {o:Ob} {p:Int × Int × Bool} {c:Int × Int} (h:ptStep labs o p=.error c):(c.1=7 ∨ c.1=10)∧c.2=p.1:=by
 unfold ptStep at h
 split at h
 ·split at h
  ·injection h with h;subst h;exact⟨.inl rfl,rfl⟩
  ·cases h
 ·split at h
  ·injection h with h;subst h;exact⟨.inr rfl,rfl⟩
  ·cases h
set_option maxRecDepth 100000 in
set_option maxHeartbeats 16000000 in
theorem zz16 (HPK:PredKeeps) (ls:List ByteArray) (hs:∀ s ∈ ls,s.size≤1048576) (hm:ls.length≤100000) (v:Value) {B:Nat} (w:World) (hp:LaidC B w) (hv:AtomsAt w v ls) :
  Calls Tryz.prog 12 #[v] w (AsmW w (asmOf (ls.map (·.data.toList)))):=by
 obtain⟨A,c,rfl⟩:=hv.form
 obtain⟨L,hL⟩:∃ L,ls.map (·.data.toList)=L:=⟨_,rfl⟩
 have hLn:L.length=ls.length:=by rw [← hL,List.length_map]
 have HLK:Hid (∀ k (hk:k<ls.length),ls[k].data.toList=L[k]'(by omega)):=hD (fun k hk=>by subst hL;rw [List.getElem_map])
 rw [hL]
 have HV:=hD hv
 have HS:=hD hs
 obtain⟨r,hr⟩:∃ r,asmOf L=r:=⟨_,rfl⟩
 have HR:=hD hr
 rw [hr]
 have hb1:=za w (.cells #[.slice none 0 0,.slice none 0 0,.slice none 0 0,.slice none 0 0] 35)
 have HX0:=hD (Box.new w 35 #[.slice none 0 0,.slice none 0 0,.slice none 0 0,.slice none 0 0])
 have HP:=hD (hp.up hb1)
 have HB1:=hD hb1
 have HM0:=hD (Mk.start (w.alloc (.cells #[.slice none 0 0,.slice none 0 0,.slice none 0 0,.slice none 0 0] 35)) _ (Below.refl _ _))
 have HP0:=hD (LnP.start L)
 have HTK:=hD (fun w0 g M va vf vp vc vq s n x hx hl hla B hp w hk=>take_any HPK w0 g M va vf vp vc vq s n x hx hl hla (B:=B) hp w hk)
 have HFU:=hD (fun w0 g M va vf vp vc vq s w hk=>mfull_any w0 g M va vf vp vc vq s w hk)
 have HST:=hD (fun w0 g M va vf vp vc vq s l n b hn hA hl w hk=>zd17 w0 g M va vf vp vc vq s l n b hn hA hl w hk)
 obtain⟨gr,hgr⟩:∃ gr,w.heap.size=gr:=⟨_,rfl⟩
 obtain⟨w0,hw0⟩:∃ w0,w.alloc (.cells #[.slice none 0 0,.slice none 0 0,.slice none 0 0,.slice none 0 0] 35)=w0:=⟨_,rfl⟩
 have HGR:=hD hgr
 have hmm:=@run_makeMap Tryz.prog
 clear hs hv hL hr hb1 hp
 go_enter Tryz.func12,Tryz.ntmps12
 go_upto_region 2 with(fail)
 rw [hgr,hw0] at HX0
 rw [hw0] at HP HM0 HB1
 obtain⟨M,hM⟩:∃ M,w0.heap.size=M:=⟨_,rfl⟩
 have HGM:Hid (gr<M):=hD (by have:=HX0.out.lt;omega)
 have HMM:=hD hM
 rw [hM] at HM0 ⊢
 obtain⟨w1,hw1⟩:∃ w1,(w0.alloc (.map #[] 0)).alloc (.cells #[.slice none 0 0,.slice none 0 0,.slice none 0 0,.slice none 0 0,.map (some M),.slice none 0 0] 79)=w1:=⟨_,rfl⟩
 rw [hw1] at HM0 ⊢
 clear hw1 hM hw0 hgr hmm
 go_wp2
 go_loopw [3,4,6,7,8,16] (fun _ _ _ _ _ j wr=>∃ (k:Nat) (s:St) (va vf vp vc vq:Value),k≤ls.length∧j=.int .i64 k∧Hid (LnP L k s)∧Hid (Mk w0 wr (M+1) M va vf vp vc vq s)) (fun _ _ _ _ _ j _=>ls.length - (intOf j).toNat)
 case atStart=>exact⟨0,startSt,_,_,_,_,_,by omega,rfl,HP0,HM0⟩
 obtain⟨k,s,va,vf,vp,vc,vq,hkl,rfl,HLP,HK⟩:=hrel
 clear HP0 HM0
 by_cases hlt:k<ls.length
 case pos=>
  obtain⟨b,off,rfl,hb,hc⟩:=zf3 HV.out k hlt
  have HBW:=hD (HB1.out.trans (HK.out.below.mono HB1.out.size))
  have d0:=(HBW.out.cell (p:=⟨b,off+k,none⟩) hb).trans hc
  have hbd:=HLP.out
  have HT:=hD (fun W h=>HTK.out w0 (M+1) M va vf vp vc vq s (k:Int) ls[k] (HS.out _ (List.getElem_mem hlt)) ⟨by have:=hbd.2.2.2.2.1;omega,by have:=hbd.2.2.2.2.2.1;omega,by have:=hbd.2.2.2.2.2.2.1;omega,by have:=hbd.2.2.2.2.2.2.2;omega,by have:=hbd.2.2.1;omega⟩ (by have:=hbd.2.2.2.1;omega) B HP.out W h)
  rw [HLK.out k hlt] at HT
  have HX1:=HX0.out.below HK.out.below HX0.out.lt
  generalize ls[k]=x at d0 HT
  have hkL:k<L.length:=by omega
  have HE1:=hD (fun cc (h:lineStep (k:Int) L[k] s=.error cc)=>HLP.out.err hkL h)
  have HE2:=hD (fun s' (h:lineStep (k:Int) L[k] s=.ok s') hb=>HLP.out.big hkL h hb)
  have HE3:=hD (fun s' (h:lineStep (k:Int) L[k] s=.ok s') hb=>HLP.out.ok hkL h hb)
  clear hbd hc
  generalize hls:lineStep (k:Int) L[k] s=res at HT HE1 HE2 HE3
  cases res with
  | error cc=>
   have hcc:=zu14 hls
   have HX:Hid (r=(emptyOb,cc,(k:Int))):=hD (HR.out.symm.trans (HE1.out cc rfl))
   clear hls HE1 HE2 HE3
   unfold LineW at HT
   simp only at HT
   have e1:(cc == 0)=false:=by rw [beq_eq_false_iff_ne];omega
   have e2:(cc != 0)=true:=by rw [bne_iff_ne];omega
   go_wp2_with (go_at_call 19;refine(HT.out _ HK.out).mono ?_;rintro e w3 ⟨rfl,hb3⟩;have HB3:=hD (HX0.out.below hb3 HX0.out.lt);have HBB:=hD (HB1.out.trans (hb3.mono HB1.out.size));clear hb3;have b0:=HB3.out.cell 0;have z0:=HB3.out.frozen 0;have b1:=HB3.out.cell 1;have z1:=HB3.out.frozen 1;have b2:=HB3.out.cell 2;have z2:=HB3.out.frozen 2;have b3:=HB3.out.cell 3;have z3:=HB3.out.frozen 3)
   refine zk4 (x:=.int .i64 cc) (y:=.int .i64 k) HB3.out (by intro W c0 c1 c2 c3;simp [results,Tryz.results12,go_sem,c0,c1,c2,c3]) ?_
   intro W hW hF
   exact zt12 HX.out (HBB.out.trans (hF.below HBB.out.size (fun k hk=>by have:=HGR.out;omega)))
  | ok s2=>
   unfold LineW at HT
   simp only at HT
   cases hbg:bigO s2.ob with
   | true=>
    have HX:Hid (r=(emptyOb,2,(k:Int))):=hD (HR.out.symm.trans (HE2.out s2 rfl hbg))
    clear hls HE1 HE2 HE3
    go_wp2_with (first
     | (go_at_call 19;refine(HT.out _ HK.out).mono ?_;rintro e w3 ⟨va2,vf2,vp2,vc2,vq2,rfl,hk3⟩;have HK3:=hD hk3;have HF3:=hD (HFU.out _ _ _ _ _ _ _ _ _ w3 hk3);rw [hbg] at HF3;have HB3:=hD (HX0.out.below hk3.below HX0.out.lt);have HBB:=hD (HB1.out.trans (hk3.below.mono HB1.out.size));clear hk3;have b0:=HB3.out.cell 0;have z0:=HB3.out.frozen 0;have b1:=HB3.out.cell 1;have z1:=HB3.out.frozen 1;have b2:=HB3.out.cell 2;have z2:=HB3.out.frozen 2;have b3:=HB3.out.cell 3;have z3:=HB3.out.frozen 3)
     | (go_at_call 20;refine HF3.out.mono ?_;rintro e w4 ⟨rfl,rfl⟩))
    refine zk4 (x:=.int .i64 2) (y:=.int .i64 k) HB3.out (by intro W c0 c1 c2 c3;simp [results,Tryz.results12,go_sem,c0,c1,c2,c3]) ?_
    intro W hW hF
    exact zt12 HX.out (HBB.out.trans (hF.below HBB.out.size (fun k hk=>by have:=HGR.out;omega)))
   | false=>
    have HLP2:=hD (HE3.out s2 rfl hbg)
    clear hls HE1 HE2 HE3
    go_wp2_with (first
     | (go_at_call 19;refine(HT.out _ HK.out).mono ?_;rintro e w3 ⟨va2,vf2,vp2,vc2,vq2,rfl,hk3⟩;have HK3:=hD hk3;have HF3:=hD (HFU.out _ _ _ _ _ _ _ _ _ w3 hk3);rw [hbg] at HF3;clear hk3)
     | (go_at_call 20;refine HF3.out.mono ?_;rintro e w4 ⟨rfl,rfl⟩))
    go_roundw
    case rel=>exact⟨k+1,s2,va2,vf2,vp2,vc2,vq2,by omega,by go_num,HLP2,HK3⟩
    case measure=>simp [intOf];omega
 case neg=>
 obtain rfl:k=ls.length:=by omega
 have HD:Hid (r=match ptsStep s.labs s.pts s.ob with
  | .error (e,n)=>(emptyOb,e,n)
  | .ok o=>(o,0,-1)):=hD (by
   have h:=HLP.out
   rw [← hLn] at h
   exact HR.out.symm.trans h.done)
 have HSB:=hD HLP.out.2.1
 have hbd:=HLP.out
 have HBD:Hid (s.ob.preds.length≤64∧s.ob.code.length≤1024∧s.pts.length≤100000):=hD ⟨hbd.2.2.2.2.2.2.1,hbd.2.2.2.2.2.2.2,by have:=hbd.2.2.1;omega⟩
 have HPT:=hD (PtP.start HSB.out)
 obtain⟨A5,c5,hvq,_⟩:=zl HK.out.rq
 subst hvq
 have q5:=HK.out.box.cell 5
 have hpl:=HBD.out.2.2
 clear hbd HLP HR HTK HFU HLK HS HV
 go_wp2
 go_loopw [3,4,10,11,38] (fun _ _ _ _ j wr=>∃ (k:Nat) (o:Ob),k≤s.pts.length∧j=.int .i64 k∧Hid (PtP s k o)∧Hid (Mk w0 wr (M+1) M va vf vp vc (.slice A5 s.pts.length c5) { s with ob:=o })) (fun _ _ _ _ j _=>s.pts.length - (intOf j).toNat)
 case atStart=>exact⟨0,s.ob,by omega,rfl,HPT,HK⟩
 obtain⟨k,o,hkl,rfl,HPP,HK2⟩:=hrel
 clear HPT q5 HK
 by_cases hlt:k<s.pts.length
 case pos=>
  obtain⟨b,rfl,d0,d1,d2⟩:=ptCell HK2.out.rq k hlt
  have hpt:=HSB.out.pts _ (List.getElem_mem hlt)
  have HPL:=hD HPP.out.2.1
  have HS:=hD (fun W h=>HST.out w0 (M+1) M va vf vp vc (.slice (some ⟨b,0,none⟩) s.pts.length c5) { s with ob:=o } s.pts[k].1 s.pts[k].2.1 s.pts[k].2.2 (fun e=>by have:=hpt.2.2 e;have:=HPL.out;exact⟨hpt.1,by simp only;omega⟩) (fun i hi m hm=>by have:=HPP.out.2.2.2 _ (List.getElem_mem hi) m hm;omega) (by have h1:=HPP.out.2.1;have h2:=HPP.out.2.2.1;have:=HBD.out;simp only;rw [h2];omega) W h)
  have HX1:=HX0.out.below HK2.out.below HX0.out.lt
  have HE1:=hD (fun cc (h:ptStep s.labs o s.pts[k]=.error cc)=>HPP.out.err hlt h)
  have HE3:=hD (fun o' (h:ptStep s.labs o s.pts[k]=.ok o')=>HPP.out.ok HSB.out (by have:=HBD.out;omega) hlt h)
  simp only at HS
  rw [show(s.pts[k].1,s.pts[k].2.1,s.pts[k].2.2)=s.pts[k] from rfl] at HS
  generalize hls:ptStep s.labs o s.pts[k]=res at HS HE1 HE3
  cases res with
  | error cc=>
   obtain⟨hcc,hcl⟩:=zq20 hls
   obtain⟨c1,c2⟩:=cc
   simp only at hcc hcl
   have HX:Hid (r=(emptyOb,c1,s.pts[k].1)):=hD (by rw [HD.out,HE1.out _ rfl,hcl])
   clear hls HE1 HE3 hpt hcl
   unfold SettleV at HS
   simp only at HS
   generalize s.pts[k].1=y0 at d0 HS HX
   generalize s.pts[k].2.1=y1 at d1 HS
   generalize s.pts[k].2.2=y2 at d2 HS
   have e2:(c1 != 0)=true:=by rw [bne_iff_ne];omega
   have HK3:=hD (HK2.out.alloc (.cells #[.int .i64 y0,.int .i64 y1,.bool y2] 82))
   have HN3:=hD (Box.new wr 82 #[.int .i64 y0,.int .i64 y1,.bool y2])
   have hgw:=HGM.out
   have hgm:=HMM.out
   have hgs:=HK2.out.below.size
   have hne1:wr.heap.size≠gr:=by omega
   have hne2:gr≠wr.heap.size:=by omega
   clear hgw hgm hgs
   have HLTW:Hid (¬ vc.ownBlock=some wr.heap.size):=hD (fun e=>by have:=(own_ge HK2.out.rc e).2;omega)
   go_upto_region 16 with(go_at_call 21;refine(HS.out _ HK3.out).mono ?_;rintro e w3 ⟨rfl,hb3,hf3⟩;have HP3:=hD (HN3.out.fr hf3 HLTW.out);have HB3:=hD (HX0.out.below hb3 HX0.out.lt);have HBB:=hD (HB1.out.trans (hb3.mono HB1.out.size));clear hb3 hf3;have b0:=HB3.out.cell 0;have z0:=HB3.out.frozen 0;have b1:=HB3.out.cell 1;have z1:=HB3.out.frozen 1;have b2:=HB3.out.cell 2;have z2:=HB3.out.frozen 2;have b3:=HB3.out.cell 3;have z3:=HB3.out.frozen 3)
   have e0:=HP3.out.cell 0
   go_region
   all_goals
    go_wp2
    refine zk4 (x:=.int .i64 c1) (y:=.int .i64 y0) (HB3.out.drewN _) (by intro W c0 c1 c2 c3;simp [results,Tryz.results12,go_sem,c0,c1,c2,c3]) ?_
    intro W hW hF
    exact zt12 HX.out ((zo HBB.out _).trans (hF.below HBB.out.size (fun k hk=>by have:=HGR.out;omega)))
  | ok o2=>
   have HPP2:=hD (HE3.out o2 rfl)
   clear hls HE1 HE3 hpt
   unfold SettleV at HS
   simp only at HS
   generalize s.pts[k].1=y0 at d0 HS
   generalize s.pts[k].2.1=y1 at d1 HS
   generalize s.pts[k].2.2=y2 at d2 HS
   have HK3:=hD (HK2.out.alloc (.cells #[.int .i64 y0,.int .i64 y1,.bool y2] 82))
   go_wp2_with (go_at_call 21;refine(HS.out _ HK3.out).mono ?_;rintro e w3 ⟨rfl,hk3⟩;have HK4:=hD hk3;clear hk3)
   go_roundw
   case rel=>exact⟨k+1,o2,by omega,by go_num,HPP2,HK4⟩
   case measure=>simp [intOf];omega
 case neg=>
 obtain rfl:k=s.pts.length:=by omega
 have HX:Hid (r=(o,0,-1)):=hD (by rw [HD.out,HPP.out.done])
 have HB3:=hD (HX0.out.below HK2.out.below HX0.out.lt)
 have HBB:=hD (HB1.out.trans (HK2.out.below.mono HB1.out.size))
 obtain⟨A1,c1,hva,_⟩:=zl HK2.out.ra
 obtain⟨A2,c2,hvf,_⟩:=zl HK2.out.rf
 obtain⟨A3,c3,hvp,_⟩:=zl HK2.out.rp
 obtain⟨A4,c4,hvc,_⟩:=zl HK2.out.rc
 subst hva hvf hvp hvc
 obtain⟨q0,q1,q2,q3,_,_⟩:=HK2.out.cells
 have b0:=HB3.out.cell 0
 have z0:=HB3.out.frozen 0
 have b1:=HB3.out.cell 1
 have z1:=HB3.out.frozen 1
 have b2:=HB3.out.cell 2
 have z2:=HB3.out.frozen 2
 have b3:=HB3.out.cell 3
 have z3:=HB3.out.frozen 3
 have HO:Hid (ObOwn wr M _ _ _ _ o):=hD (ObOwn.of_mk HK2.out (by have:=HMM.out;omega))
 have HOW:Hid (ObOwn wr w.heap.size _ _ _ _ o):=hD (ObOwn.of_mk HK2.out (by have:=HMM.out;have:=HGM.out;have:=HGR.out;omega))
 clear HPP HD HK2
 go_wp2
 refine zk4 (x:=.int .i64 0) (y:=.int .i64 (-1)) HB3.out (by intro W c0 c1 c2 c3;simp [results,Tryz.results12,go_sem,c0,c1,c2,c3]) ?_
 intro W hW hF
 refine asmW_ok HX.out ?_ (HBB.out.trans (hF.below HBB.out.size (fun k hk=>by have:=HGR.out;omega)))
 have hg:=HGM.out
 exact⟨own_fr HOW.out.ra hF (fun k hk e=>by have:=(own_ge HO.out.ra hk).1;omega),own_fr HOW.out.rf hF (fun k hk e=>by have:=(own_ge HO.out.rf hk).1;omega),own_fr HOW.out.rp hF (fun k hk e=>by have:=(own_ge HO.out.rp hk).1;omega),own_fr HOW.out.rc hF (fun k hk e=>by have:=(own_ge HO.out.rc hk).1;omega)⟩
end Go.Proofs.YtlmbiafloiompaaGreatDoor
