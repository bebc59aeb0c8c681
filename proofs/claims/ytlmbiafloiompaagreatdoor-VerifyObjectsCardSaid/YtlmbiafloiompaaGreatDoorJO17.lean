/-
 verify's labels and leads (layer 11): where an instruction goes. Conditions: places as code has them.
-/
import Derived.Test.YtlmbiafloiompaaGreatDoorJO10
import Derived.Test.YtlmbiafloiompaaGreatDoorJO02
set_option linter.unusedVariables false
set_option linter.unusedSimpArgs false
namespace Go.Proofs.YtlmbiafloiompaaGreatDoor
open Go Go.RowKit
set_option maxRecDepth 4000
theorem newInts_v {w w':World} {l:List Int} {e:Ending} (hN:NewInts w l e w') :
  ∃ pl,e=.returned (.slice pl l.length l.length)∧Below w.heap.size w w'∧(0<l.length→pl=some ⟨w.heap.size,0,none⟩∧Box w' w.heap.size 3 (l.map (Value.int .i64)).toArray):=by
 rcases hN with⟨rfl,rfl,rfl⟩ | ⟨_,rfl,rfl⟩
 ·exact⟨none,rfl,Below.refl _ _,fun h=>absurd h (by simp)⟩
 ·exact⟨_,rfl,za w _,fun _=>⟨rfl,Box.new _ _ _⟩⟩
theorem slIntV:SlT 73 3 1 8:=⟨Tryz.underlying73,⟨.int .i64 0,by kernel_rfl,rfl⟩,by decide,by decide⟩
def IntsV (w:World) (v:Value) (l:List Int):Prop:=CellsAt w v l.length (l.map (Value.int .i64))
theorem insArr_at (op a b c d:Int) (k:Nat) (hk:k<4):(#[.int .i64 op,.int .i64 a,.int .i64 b,.int .i64 c,.int .i64 d]:Array Value)[1+k]?=some (.int .i64 ([a,b,c,d].getD k 0)):=by
 match k,hk with
 | 0,_=>rfl
 | 1,_=>rfl
 | 2,_=>rfl
 | 3,_=>rfl
set_option maxHeartbeats 4000000 in
theorem zm7 (op a b c d:Int) (w:World) :
  Calls Tryz.prog 100 #[.agg #[.int .i64 op,.int .i64 a,.int .i64 b,.int .i64 c,.int .i64 d]] w fun e w'=>∃ v,e=.returned v∧w'.ownsRow w.heap.size 3 1 v (labsV (op,a,b,c,d)).length ((labsV (op,a,b,c,d)).map (Value.int .i64))∧Below w.heap.size w w':=by
 obtain⟨lk,hlk⟩:∃ lk:Nat→List Int,∀ k,lk k=labK (op,a,b,c,d) k:=⟨fun k=>_,fun _=>rfl⟩
 obtain⟨ag,hag⟩:∃ ag:Nat→Int,∀ k,ag k=[a,b,c,d].getD k 0:=⟨fun k=>_,fun _=>rfl⟩
 obtain⟨L,hL⟩:∃ L,opsOf op=L:=⟨_,rfl⟩
 have HOPS:=hD (fun w=>za3 op w)
 have HALL:Hid (labsV (op,a,b,c,d)=lk L.length):=hD (by rw [hlk,← hL];exact(zs8 _).symm)
 have HYES:Hid (∀ k,L.getD k 0=8→ag k≠65535→lk (k+1)=lk k ++ [ag k]):=hD (fun k h1 h2=>by rw [hlk,hlk,hag];exact zy12 (i:=(op,a,b,c,d)) (by simpa only [hL] using h1) (by rw [hag] at h2;exact h2))
 have HNO:Hid (∀ k,¬ (L.getD k 0=8∧ag k≠65535)→lk (k+1)=lk k):=hD (fun k h=>by rw [hlk,hlk];exact zm16 (i:=(op,a,b,c,d)) (fun x=>h ⟨by simpa only [hL] using x.1,by rw [hag];exact x.2⟩))
 have HLK0:Hid (lk 0=[]):=hD (by rw [hlk,labK_zero])
 have HLN:Hid (∀ k,(lk k).length≤k):=hD (fun k=>by rw [hlk];exact zt8 _ k)
 have hl4:L.length≤4:=by rw [← hL];exact zx9 op
 have HAR:Hid (∀ k,k<4→(#[.int .i64 op,.int .i64 a,.int .i64 b,.int .i64 c,.int .i64 d]:Array Value)[1+k]?=some (.int .i64 (ag k))):=hD (fun k hk=>by rw [hag];exact insArr_at op a b c d k hk)
 rw [hL] at HOPS
 clear hlk hag hL
 have HB:=hD (za w (.cells #[.int .i64 op,.int .i64 a,.int .i64 b,.int .i64 c,.int .i64 d] 65))
 have HX:=hD (Box.new w 65 #[.int .i64 op,.int .i64 a,.int .i64 b,.int .i64 c,.int .i64 d])
 have c0:=HX.out.cell 0
 obtain⟨g,hg⟩:∃ g,w.heap.size=g:=⟨_,rfl⟩
 have HG:=hD hg
 generalize labsV (op,a,b,c,d)=R at HALL ⊢
 go_enter Tryz.func100,Tryz.ntmps100
 go_upto_region 2 with(fail)
 rw [hg] at HX c0
 obtain⟨w1,hw1⟩:∃ w1,w.alloc (.cells #[.int .i64 op,.int .i64 a,.int .i64 b,.int .i64 c,.int .i64 d] 65)=w1:=⟨_,rfl⟩
 rw [hw1] at HB HX c0 ⊢
 clear hw1 hg
 go_wp2_with (go_at_call 79;refine(HOPS.out _).mono ?_;rintro e w2 hN;obtain⟨pl,rfl,hb2,hl2⟩:=newInts_v hN;have HB2:=hD (HB.out.trans (hb2.mono HB.out.size));have HX2:=hD (HX.out.below hb2 HX.out.lt);have HL2:Hid (0<L.length→∃ go,pl=some ⟨go,0,none⟩∧Box w2 go 3 (L.map (Value.int .i64)).toArray):=hD (fun h=>⟨_,hl2 h⟩);clear hN hb2 hl2)
 clear c0 HB HX
 have F0:=hD (Below.refl w2.heap.size w2)
 have O0:Hid (w2.ownsRow w2.heap.size 3 1 (.slice none 0 0) (lk 0).length ((lk 0).map (Value.int .i64))):=hD (by rw [HLK0.out];exact⟨rfl,.inl ⟨rfl,rfl⟩⟩)
 go_loopw [3,4,5,10] (fun s _ _ i wr=>∃ (k:Nat) (vs:Value),k≤L.length∧i=.int .i64 k∧vs=s∧Hid (wr.ownsRow w2.heap.size 3 1 vs (lk k).length ((lk k).map (Value.int .i64)))∧Hid (Below w2.heap.size w2 wr)) (fun _ _ _ i _=>L.length - (intOf i).toNat)
 case atStart=>exact⟨0,_,by omega,rfl,rfl,O0,F0⟩
 obtain⟨k,vs,hk,rfl,rfl,HO,HF⟩:=hrel
 clear F0 O0
 by_cases hlt:k<L.length
 case pos=>
  obtain⟨go,rfl,hbo⟩:=HL2.out (by omega)
  have HXW:=hD (HX2.out.below HF.out HX2.out.lt)
  have d0:=(hbo.below HF.out hbo.lt).cell k
  have hgd:(L.map (Value.int .i64)).toArray[k]?=some (.int .i64 (L.getD k 0)):=by simp [hlt]
  rw [hgd] at d0
  have c1:=HXW.out.cell (1+k)
  rw [HAR.out k (by omega)] at c1
  have HY:=hD (HYES.out k)
  have HN:=hD (HNO.out k)
  have hln:=HLN.out k
  have i0:(0:Int)≤(k:Int):=by omega
  have i1:(k:Int)<4:=by omega
  have i2:(k:Int)<(L.length:Int):=by omega
  clear hbo hgd
  generalize L.getD k 0=kd at d0 HY HN
  generalize ag k=ak at c1 HY HN
  by_cases h8:kd=8
  ·subst h8
   by_cases hn:ak=65535
   ·have e1:(ak != 65535)=false:=by rw [bne_eq_false_iff_eq];exact hn
    have HE:=hD (HN.out (fun x=>x.2 hn))
    clear hn
    go_wp2
    go_roundw
    case rel=>exact⟨k+1,_,by omega,by go_num,rfl,hD (by rw [HE.out];exact HO.out),HF⟩
    case measure=>simp [intOf];omega
   ·have e1:(ak != 65535)=true:=by rw [bne_iff_ne];exact hn
    have HE:=hD (HY.out rfl hn)
    clear hn
    have HSZ:=hD HF.out.size
    obtain⟨v7,w7,hr7,HA7⟩:=zp1 slIntV HO.out [.int .i64 ak] rfl (by intro u hu;simp only [List.mem_cons,List.not_mem_nil,or_false] at hu;subst hu;rfl) (by omega) HF.out.size 73
    have HB7:Hid (Below w2.heap.size w2 w7):=hD (HF.out.trans (HA7.out.below HO.out HF.out.size))
    have HO7:Hid (w7.ownsRow w2.heap.size 3 1 v7 (lk (k+1)).length ((lk (k+1)).map (Value.int .i64))):=hD (by rw [HE.out,List.length_append,List.map_append];exact HA7.out.own)
    have HR:=hD hr7
    clear hr7
    go_wp2_with (at_builtin;refine zv HR.out rfl _ _ rfl rfl rfl ?_)
    go_roundw
    case rel=>exact⟨k+1,_,by omega,by go_num,rfl,HO7,HB7⟩
    case measure=>simp [intOf];omega
  ·have e0:(kd == 8)=false:=beq_eq_false_iff_ne.2 h8
   have HE:=hD (HN.out (fun x=>h8 x.1))
   clear h8
   go_wp2
   go_roundw
   case rel=>exact⟨k+1,_,by omega,by go_num,rfl,hD (by rw [HE.out];exact HO.out),HF⟩
   case measure=>simp [intOf];omega
 case neg=>
 obtain rfl:k=L.length:=by omega
 have HC:Hid (wr.ownsRow w.heap.size 3 1 vs (lk L.length).length ((lk L.length).map (Value.int .i64))):=hD (zh4 HO.out (fun k hk=>Nat.le_trans HB2.out.size (own_ge HO.out hk).1))
 go_wp2
 go_ret
 exact⟨_,rfl,by rw [HALL.out];first | exact HC.out | (rw [← HG.out];exact HC.out) | (rw [HG.out];exact HC.out),by first | exact HB2.out.trans (HF.out.mono HB2.out.size) | (rw [← HG.out];exact HB2.out.trans (HF.out.mono HB2.out.size)) | (rw [HG.out];exact HB2.out.trans (HF.out.mono HB2.out.size))⟩
set_option maxHeartbeats 4000000 in
theorem leads_any (ar fr en:Int) (n:Nat) (hn:n≤1024) (op a b c d:Int) (w:World) :
  Calls Tryz.prog 97 #[.agg #[.int .i64 ar,.int .i64 fr,.int .i64 en],.int .i64 n,.agg #[.int .i64 op,.int .i64 a,.int .i64 b,.int .i64 c,.int .i64 d]] w fun e w'=>e=.returned (.bool (leadsV en n (op,a,b,c,d)))∧Below w.heap.size w w':=by
 obtain⟨L,hL⟩:∃ L,labsV (op,a,b,c,d)=L:=⟨_,rfl⟩
 have HLB:=hD (fun w=>zm7 op a b c d w)
 rw [hL] at HLB
 have hLn:L.length≤4:=by rw [← hL,← zs8];exact Nat.le_trans (zt8 _ _) (zx9 _)
 have HGO:=hD (fun w=>zk7 op w)
 have HR:Hid (leadsV en n (op,a,b,c,d)=((!onV op || decide ((n:Int)+1<en)) && L.all fun t=>decide ((n:Int)<t) && decide (t<en))):=hD (by unfold leadsV;rw [hL])
 have HON:Hid ((!(decide (op=0) || decide (op=18) || decide (op=19) || decide (op=26)))=onV op):=hD rfl
 rw [HON.out] at HGO
 generalize leadsV en n (op,a,b,c,d)=R at HR ⊢
 generalize onV op=on at HGO HR
 clear HON hL
 have hwr:IntKind.i64.wrap ((n:Int)+1)=(n:Int)+1:=IntWalk.i64_in _ (by omega)
 have HBH:=hD (fun l w=>zk19 ar fr en n l w)
 obtain⟨hb1,hb2,hb3⟩:Box ((w.alloc (.cells #[.int .i64 ar,.int .i64 fr,.int .i64 en] 128)).alloc (.cells #[.int .i64 op,.int .i64 a,.int .i64 b,.int .i64 c,.int .i64 d] 65)) w.heap.size 128 #[.int .i64 ar,.int .i64 fr,.int .i64 en]∧Box ((w.alloc (.cells #[.int .i64 ar,.int .i64 fr,.int .i64 en] 128)).alloc (.cells #[.int .i64 op,.int .i64 a,.int .i64 b,.int .i64 c,.int .i64 d] 65)) (w.heap.size+1) 65 #[.int .i64 op,.int .i64 a,.int .i64 b,.int .i64 c,.int .i64 d]∧Below w.heap.size w ((w.alloc (.cells #[.int .i64 ar,.int .i64 fr,.int .i64 en] 128)).alloc (.cells #[.int .i64 op,.int .i64 a,.int .i64 b,.int .i64 c,.int .i64 d] 65)):=by
  refine⟨(Box.new w _ _).alloc _,?_,za1 w _ _⟩
  have:=Box.new (w.alloc (.cells #[.int .i64 ar,.int .i64 fr,.int .i64 en] 128)) 65 #[.int .i64 op,.int .i64 a,.int .i64 b,.int .i64 c,.int .i64 d]
  rw [World.size_alloc] at this
  exact this
 have HX:=hD hb1
 have HY:=hD hb2
 have HB:=hD hb3
 clear hb1 hb2 hb3
 go_enter Tryz.func97,Tryz.ntmps97
 go_upto_region 1 with(fail)
 obtain⟨w1,hw1⟩:∃ w1,(w.alloc (.cells #[.int .i64 ar,.int .i64 fr,.int .i64 en] 128)).alloc (.cells #[.int .i64 op,.int .i64 a,.int .i64 b,.int .i64 c,.int .i64 d] 65)=w1:=⟨_,rfl⟩
 obtain⟨g,hg⟩:∃ g,w.heap.size=g:=⟨_,rfl⟩
 rw [hw1] at HX HY HB ⊢
 have HG:=hD HB.out.size
 rw [hg] at HX HY HB HG ⊢
 clear hw1
 have x0:=HX.out.cell 0
 have x1:=HX.out.cell 1
 have x2:=HX.out.cell 2
 have y0:=HY.out.cell 0
 obtain⟨tb,htb⟩:∃ tb,(on && !decide ((n:Int)+1<en))=tb:=⟨_,rfl⟩
 have HTB:=hD htb
 clear htb
 go_cut [19] (fun t wc=>t=.bool tb∧Hid (Box wc g 128 #[.int .i64 ar,.int .i64 fr,.int .i64 en])∧Hid (Box wc (g+1) 65 #[.int .i64 op,.int .i64 a,.int .i64 b,.int .i64 c,.int .i64 d])∧Hid (Below g w wc))
 case first=>
  cases on with
  | false=>
   have hu:tb=false:=by rw [← HTB.out];rfl
   clear HR HLB HBH
   go_wp2_with (go_at_call 99;refine(HGO.out _).mono ?_;rintro e1 w2 ⟨rfl,rfl⟩)
   go_meet
   exact⟨by rw [hu],HX,HY,HB⟩
  | true=>
   have hu:(!(decide ((n:Int)<(n:Int)+1) && decide ((n:Int)+1<en)))=tb:=by
    rw [← HTB.out,decide_eq_true (show(n:Int)<(n:Int)+1 by omega)]
    rfl
   have HBV:=hD (fun w=>HBH.out ((n:Int)+1) w)
   generalize (decide ((n:Int)<(n:Int)+1) && decide ((n:Int)+1<en))=bb at hu HBV
   have HU:=hD hu
   clear hu HR HLB HBH
   go_wp2_with (first | (go_at_call 99;refine(HGO.out _).mono ?_;rintro e1 w2 ⟨rfl,rfl⟩) | (go_at_call 130;refine(HBV.out _).mono ?_;rintro e1 w2 ⟨rfl,hb2⟩;have HX2:=hD (HX.out.below hb2 HX.out.lt);have HY2:=hD (HY.out.below hb2 HY.out.lt);have HB2:=hD (HB.out.trans (hb2.mono HG.out));clear hb2))
   go_meet
   exact⟨by rw [HU.out],HX2,HY2,HB2⟩
 case rest=>
 obtain⟨rfl,HXc,HYc,HBc⟩:=hcut
 clear HX HY HB HG x0 x1 x2 y0 HGO
 have HGc:=hD HBc.out.size
 rw [hg] at HGc
 cases htb:tb with
 | true=>
  have HRF:Hid (R=false):=hD (by
   rw [HR.out]
   rw [htb] at HTB
   have h:=HTB.out
   cases on with
   | false=>cases h
   | true=>
    have h2:decide ((n:Int)+1<en)=false:=by simpa using h
    rw [h2]
    rfl)
  clear HTB htb HR HLB HBH
  go_wp2
  go_ret
  exact⟨by rw [HRF.out];rfl,by first | exact HBc.out | (rw [hg];exact HBc.out)⟩
 | false=>
  have HRT:Hid (R=L.all fun t=>decide ((n:Int)<t) && decide (t<en)):=hD (by
   rw [HR.out]
   rw [htb] at HTB
   have h:=HTB.out
   cases on with
   | false=>rfl
   | true=>
    have h2:decide ((n:Int)+1<en)=true:=by simpa using h
    rw [h2]
    rfl)
  clear HTB htb HR
  have x0:=HXc.out.cell 0
  have x1:=HXc.out.cell 1
  have x2:=HXc.out.cell 2
  have y0:=HYc.out.cell 0
  have y1:=HYc.out.cell 1
  have y2:=HYc.out.cell 2
  have y3:=HYc.out.cell 3
  have y4:=HYc.out.cell 4
  go_wp2_with (go_at_call 100;refine(HLB.out _).mono ?_;rintro e1 w2 ⟨v2,rfl,hv2o,hb2⟩;have hv2:IntsV w2 v2 L:=CellsAt.of_own hv2o (by decide);clear hv2o;obtain⟨A2,k2,hv2f⟩:=CellsAt.form hv2;subst hv2f;have HV2:=hD hv2;have HX2:=hD (HXc.out.below hb2 HXc.out.lt);have HB2:=hD (HBc.out.trans (hb2.mono HGc.out));have HG2:=hD (Nat.le_trans HGc.out hb2.size);clear hb2 hv2)
  have F0:=hD (Below.refl w2.heap.size w2)
  have R0:Hid ((L.all fun t=>decide ((n:Int)<t) && decide (t<en))=((L.drop 0).all fun t=>decide ((n:Int)<t) && decide (t<en))):=hD rfl
  clear x0 x1 x2 y0 y1 y2 y3 y4
  go_loopw [8,23] (fun _ i wr=>∃ k:Nat,k≤L.length∧i=.int .i64 k∧Hid ((L.all fun t=>decide ((n:Int)<t) && decide (t<en))=((L.drop k).all fun t=>decide ((n:Int)<t) && decide (t<en)))∧Hid (Below w2.heap.size w2 wr)) (fun _ i _=>L.length - (intOf i).toNat)
  case atStart=>exact⟨0,by omega,rfl,R0,F0⟩
  obtain⟨k,hk,rfl,HA,HF⟩:=hrel
  clear R0 F0
  by_cases hlt:k<L.length
  case pos=>
   obtain⟨_,bo,off,hA2,hlo,hc⟩:=CellsAt.at_ (h:=HV2.out) (by omega)
   subst hA2
   have d0:=(HF.out.cell (p:=⟨bo,off+k,none⟩) hlo).trans (hc k (.int .i64 L[k]) (by simp [hlt]))
   have HXW:=hD (HX2.out.below HF.out HX2.out.lt)
   have x0:=HXW.out.cell 0
   have x1:=HXW.out.cell 1
   have x2:=HXW.out.cell 2
   have HBV:=hD (fun w=>HBH.out L[k] w)
   have HST:Hid (((L.drop k).all fun t=>decide ((n:Int)<t) && decide (t<en))=((decide ((n:Int)<L[k]) && decide (L[k]<en)) && ((L.drop (k+1)).all fun t=>decide ((n:Int)<t) && decide (t<en)))):=hD (by rw [List.drop_eq_getElem_cons hlt,List.all_cons])
   have HSZ:=hD HF.out.size
   clear hc
   generalize (decide ((n:Int)<L[k]) && decide (L[k]<en))=bb at HBV HST
   generalize L[k]=lk at d0 HBV
   cases bb with
   | true=>
    have HA2:=hD (by rw [HA.out,HST.out];rfl:(L.all fun t=>decide ((n:Int)<t) && decide (t<en))=((L.drop (k+1)).all fun t=>decide ((n:Int)<t) && decide (t<en)))
    clear HST HA
    go_wp2_with (go_at_call 130;refine(HBV.out _).mono ?_;rintro e1 w3 ⟨rfl,hb3⟩;have HF3:=hD (HF.out.trans (hb3.mono HSZ.out));clear hb3)
    go_roundw
    case rel=>exact⟨k+1,by omega,by go_num,HA2,HF3⟩
    case measure=>simp [intOf];omega
   | false=>
    have HRF:Hid (R=false):=hD (by rw [HRT.out,HA.out,HST.out];rfl)
    clear HST HA
    go_wp2_with (go_at_call 130;refine(HBV.out _).mono ?_;rintro e1 w3 ⟨rfl,hb3⟩;have HF3:=hD (HB2.out.trans ((HF.out.trans (hb3.mono HSZ.out)).mono HG2.out));clear hb3)
    go_ret
    exact⟨by rw [HRF.out];rfl,by first | exact HF3.out | (rw [hg];exact HF3.out)⟩
  case neg=>
  obtain rfl:k=L.length:=by omega
  have HRR:Hid (R=true):=hD (by rw [HRT.out,HA.out,List.drop_length];rfl)
  have HF3:=hD (HB2.out.trans (HF.out.mono HG2.out))
  go_wp2
  go_ret
  exact⟨by rw [HRR.out];rfl,by first | exact HF3.out | (rw [hg];exact HF3.out)⟩
end Go.Proofs.YtlmbiafloiompaaGreatDoor
