/-
  10 texts in one (VDocT CodeQ CodeR AsmM AsmP AsmB IntMap AsmA AsmC AsmD). Conditions: those of each theorem.
-/
import Derived.Test.YtlmbiafloiompaaGreatDoorJO34
import Derived.Test.YtlmbiafloiompaaGreatDoorJO35
import Derived.Test.YtlmbiafloiompaaGreatDoorJO36
import Derived.Test.YtlmbiafloiompaaGreatDoorJO37
import Derived.Test.YtlmbiafloiompaaGreatDoorJO04
import Derived.Test.YtlmbiafloiompaaGreatDoorJO01
import Derived.IntWalk
import Derived.Deep.QuietTactic
import Derived.BigQuiet
import Derived.Lib.ItoaLen
import Derived.Laws.Concat
import Derived.Test.YtlmbiafloiompaaGreatDoorJO08
import Derived.Laws.AppendOwn
import Derived.Laws.OwnMore
import Derived.WalkSpells
import Derived.Lib.IndexMore
import Derived.Lib.IndexBytes
import Derived.Test.YtlmbiafloiompaaGreatDoorProg
import Derived.Maps.OwnSet
import Derived.Maps.OwnOps
import Derived.Lib.Hide
import Derived.Test.YtlmbiafloiompaaGreatDoorJO19
import Derived.Deep.RegionLaw
import Derived.Deep.RegionHeld3
set_option linter.unusedVariables false
set_option linter.unusedSimpArgs false
namespace Go.Proofs.YtlmbiafloiompaaGreatDoor
open Go Go.RowKit
set_option maxRecDepth 100000
def RCheck11:Prop:=∀ {o:Ob} (hwf:ObWf o) {va vf vp vc:Value} (w:World) (hv:ObAt w va vf vp vc o),Calls Tryz.prog 15 #[.agg #[va,vf,vp,vc]] w (CheckD w o)
theorem pass_w {o:Ob} (ho:ObK o) {ar stop:Int} (har:0≤ar∧ar≤8) {n:Nat} (hn:n<o.code.length) {P Q:List VPl} (hP:PlW P) (h:passV o ar stop n P=some Q):PlW Q:=by
 unfold passV at h
 simp only at h
 have hp:StW (P.getD n plZero).s:=by
  rw [List.getD_eq_getElem?_getD]
  cases hx:P[n]? with
  | none=>exact StW.zero
  | some p=>exact hP p (List.mem_of_getElem? hx)
 have hi:InsK o (o.code.getD n (0,0,0,0,0)):=by
  rw [List.getD_eq_getElem?_getD,List.getElem?_eq_getElem hn]
  exact ho.ins _ (List.getElem_mem hn)
 generalize P.getD n plZero=p at h hp
 generalize o.code.getD n (0,0,0,0,0)=i at h hi
 split at h
 ·cases h
 ·rename_i hc
  injection h with h
  subst h
  have ha:asksV o ar i p.s=true:=by
   cases hx:asksV o ar i p.s with
   | true=>rfl
   | false=>exact absurd (.inr (.inr (.inl hx))) hc
  have hs:=StW.makes ho hi ha hp
  refine PlW.brings (P:=P) (fun _=>if i.1=26 then makesV o i p.s else stOther ar.toNat) _ _ ?_ (fun t _=>?_)
  ·split
   ·exact hP.bring _ hs
   ·exact hP
  ·split
   ·exact hs
   ·exact StW.other _ (by omega)
theorem zu15 {o:Ob} (ho:ObK o):∀ (f n:Nat) (P:List VPl) (l l':List VSt),n+f=o.code.length→PlW P→(∀ s ∈ l,StOk s)→walkV o f n P l=.ok l'→(∀ s ∈ l',StOk s)∧l'.length=l.length+f
 | 0,n,P,l,l',_,_,hl,h=>by
  injection h with h
  subst h
  exact⟨hl,rfl⟩
 | f+1,n,P,l,l',hn,hP,hl,h=>by
  rw [walkV] at h
  cases hx:passV o (arityP o (ownV o n)) (stopV o n) n P with
  | none=>rw [hx] at h;cases h
  | some Q=>
   rw [hx] at h
   have hQ:=pass_w ho (zg2 ho _) (by omega) hP hx
   have hp:StOk (P.getD n plZero).s:=by
    rw [List.getD_eq_getElem?_getD]
    cases hy:P[n]? with
    | none=>exact StW.zero.ok
    | some p=>exact(hP p (List.mem_of_getElem? hy)).ok
   obtain⟨h1,h2⟩:=zu15 ho f (n+1) Q _ l' (by omega) hQ (fun s hs=>by
    rcases List.mem_append.1 hs with hs | hs
    ·exact hl s hs
    ·rw [List.mem_singleton.1 hs]
     exact hp) h
   refine⟨h1,?_⟩
   rw [h2,List.length_append,List.length_singleton]
   omega
theorem start_w {o:Ob} (ho:ObK o):PlW (startV o):=by
 unfold startV
 have h:∀ (L:List (ByteArray × Int × Int)) (P:List VPl),(∀ p ∈ L,p ∈ o.preds)→PlW P→PlW (L.foldl (fun P p=>P.set p.2.2.toNat ⟨true,false,stEntry p.2.1.toNat⟩) P):=by
  intro L
  induction L with
  | nil=>intro P _ hP;exact hP
  | cons p L ih=>
   intro P hL hP
   rw [List.foldl_cons]
   refine ih _ (fun q hq=>hL q (List.mem_cons_of_mem _ hq)) ?_
   intro q hq
   rcases List.mem_or_eq_of_mem_set hq with hq | rfl
   ·exact hP q hq
   ·have:=ho.pred p (hL p List.mem_cons_self)
    exact StW.entry _ (by omega)
 exact h o.preds _ (fun _ hp=>hp) (PlW.zeros _)
theorem zc6 (o:Ob):(∀ s ∈ (verifyOf o).1,StOk s)∧(verifyOf o).2.1.length=(verifyOf o).1.length∧(verifyOf o).1.length≤1024:=by
 by_cases h1:checkOf o=0
 ·have ho:=ObK.of h1
  by_cases h2:o.preds.any noneP=false
  ·cases h3:walkV o o.code.length 0 (startV o) [] with
   | error m=>
    rw [v_bad h1 h2 h3]
    exact⟨fun s hs=>(by cases hs),rfl,Nat.zero_le _⟩
   | ok l=>
    rw [v_ok h1 h2 h3]
    obtain⟨h4,h5⟩:=zu15 ho o.code.length 0 _ [] l (by omega) (start_w ho) (fun s hs=>by cases hs) h3
    have hlc:=ho.lc
    refine⟨h4,?_,?_⟩
    ·show(needsV o o.code.length).length=l.length
     rw [zp2,h5,List.length_nil,Nat.zero_add]
    ·show l.length≤1024
     rw [h5,List.length_nil]
     omega
  ·rw [v_none h1 (by simpa using h2)]
   exact⟨fun s hs=>(by cases hs),rfl,Nat.zero_le _⟩
 ·rw [zk17 h1]
  exact⟨fun s hs=>(by cases hs),rfl,Nat.zero_le _⟩
set_option maxHeartbeats 4000000 in
theorem zm11 (HR:RCheck11) {o:Ob} (hwf:ObWf o) {va vf vp vc:Value} (w:World) (hnm:NamesAt w) (hv:ObAt w va vf vp vc o) (hnil:∀ k c,va=.slice none k c→c=0) :
  Calls Tryz.prog 8 #[.agg #[va,vf,vp,vc]] w fun e w'=>e=.returned (.bool true)∧Below w.heap.size w w':=by
 have HCK:=hD (fun W h1 h2=>zm9 sort_ok zx18 o hwf (va:=va) (vf:=vf) (vp:=vp) (vc:=vc) W h1 h2)
 unfold CheckW at HCK
 have HFR:=hD (fun W h=>zo11 o hwf va vf vp vc W h hnil)
 have HRC:=hD (fun ua uf up uc W h=>HR hwf (va:=ua) (vf:=uf) (vp:=up) (vc:=uc) W h)
 unfold CheckD at HRC
 have HSM:=hD (fun vs1 vn1 vs2 vn2 W h1 h2 h3 h4=>same_any (zc6 o).1 (zc6 o).2.1 (Nat.le_trans (zc6 o).2.2 (by decide)) (vs1:=vs1) (vn1:=vn1) (vs2:=vs2) (vn2:=vn2) W h1 h2 h3 h4)
 obtain⟨⟨l,N,c,m⟩,hvo⟩:∃ r,verifyOf o=r:=⟨_,rfl⟩
 rw [hvo] at HCK HRC HSM
 simp only at HCK HRC HSM
 clear hvo HR
 obtain⟨A1,c1,rfl⟩:=CellsAt.form hv.atoms
 obtain⟨A2,cf,rfl⟩:=CellsAt.form hv.funs
 obtain⟨A3,cp,rfl⟩:=CellsAt.form hv.preds
 obtain⟨A4,cc,rfl⟩:=CellsAt.form hv.code
 have hb0:=za w (.cells #[.slice A1 o.atoms.length c1,.slice A2 o.funs.length cf,.slice A3 o.preds.length cp,.slice A4 o.code.length cc] 35)
 have HB:=hD hb0
 have HX:=hD (Box.new w 35 #[.slice A1 o.atoms.length c1,.slice A2 o.funs.length cf,.slice A3 o.preds.length cp,.slice A4 o.code.length cc])
 have HV:=hD (hv.below hb0)
 have HNM:=hD (hnm.below hb0 hnm.lt)
 clear hv hnm hnil hb0
 obtain⟨g,hg⟩:∃ g,w.heap.size=g:=⟨_,rfl⟩
 go_enter Tryz.func8,Tryz.ntmps8
 go_upto_region 1 with(fail)
 obtain⟨w1,hw1⟩:∃ w1,w.alloc (.cells #[.slice A1 o.atoms.length c1,.slice A2 o.funs.length cf,.slice A3 o.preds.length cp,.slice A4 o.code.length cc] 35)=w1:=⟨_,rfl⟩
 rw [hw1] at HB HX HV HNM ⊢
 rw [hg] at HX
 try rw [hg]
 clear hw1
 have q0:=HX.out.cell 0
 have q1:=HX.out.cell 1
 have q2:=HX.out.cell 2
 have q3:=HX.out.cell 3
 go_upto_region 2 with(go_at_call 13;refine(HCK.out _ HNM.out HV.out).mono ?_;rintro e w2 ⟨vs,vn,rfl,hvs,hvn,hb2⟩;obtain⟨As,ks,hvsf⟩:=CellsAt.form hvs;obtain⟨An,kn,hvnf⟩:=CellsAt.form hvn;subst hvsf hvnf;have HVS:=hD hvs;have HVN:=hD hvn;have HB2:=hD hb2;clear hvs hvn hb2)
 clear q0 q1 q2 q3
 have hba:=za w2 (.cells #[.slice As l.length ks,.slice An N.length kn] 49)
 have HRP:=hD (Box.new w2 49 #[.slice As l.length ks,.slice An N.length kn])
 have hB3:=HB2.out.trans (hba.mono HB2.out.size)
 have HX3:=hD (HX.out.below hB3 HX.out.lt)
 have HV3:=hD (HV.out.below hB3)
 have HVS3:=hD (CellsAt.below HVS.out hba)
 have HVN3:=hD (CellsAt.below HVN.out hba)
 have HBw3:=hD (HB.out.trans (hB3.mono HB.out.size))
 obtain⟨w3,hw3⟩:∃ w3,w2.alloc (.cells #[.slice As l.length ks,.slice An N.length kn] 49)=w3:=⟨_,rfl⟩
 obtain⟨gr,hgr⟩:∃ gr,w2.heap.size=gr:=⟨_,rfl⟩
 rw [hw3] at HRP HX3 HV3 HVS3 HVN3 HBw3 ⊢
 rw [hgr] at HRP ⊢
 clear hba hB3 hw3 hgr HX HV HVS HVN HB HB2 HNM
 have q0:=HX3.out.cell 0
 have q1:=HX3.out.cell 1
 have q2:=HX3.out.cell 2
 have q3:=HX3.out.cell 3
 go_upto_region 3 with(first | (go_at_call 11;refine(HFR.out _ HV3.out).mono ?_;rintro e w4 ⟨ua,uf,up,uc,rfl,hu4,hb4,_⟩;have HU4:=hD hu4;have HB4:=hD hb4;clear hu4 hb4) | (go_at_call 15;refine(HRC.out _ _ _ _ _ HU4.out).mono ?_;rintro e w5 ⟨ws,wn,rfl,hws,hwn,hb5⟩;have HWS:=hD hws;have HWN:=hD hwn;have HB5:=hD (HB4.out.trans (hb5.mono HB4.out.size));clear hws hwn hb5))
 have HRP5:=hD (HRP.out.below HB5.out HRP.out.lt)
 have HVS5:=hD (CellsAt.below HVS3.out HB5.out)
 have HVN5:=hD (CellsAt.below HVN3.out HB5.out)
 have HBw5:=hD (HBw3.out.trans (HB5.out.mono HBw3.out.size))
 clear q0 q1 q2 q3
 have q0:=HRP5.out.cell 0
 have q1:=HRP5.out.cell 1
 go_wp2_with (go_at_call 16;refine(HSM.out _ _ _ _ _ HVS5.out HVN5.out HWS.out HWN.out).mono ?_;rintro e w6 ⟨rfl,hb6⟩;have HBw6:=hD (HBw5.out.trans (hb6.mono HBw5.out.size));clear hb6)
 go_ret
 exact⟨rfl,HBw6.out⟩
end Go.Proofs.YtlmbiafloiompaaGreatDoor

namespace Go.Proofs.YtlmbiafloiompaaGreatDoor
open Go Go.RowKit Go.WideShapes Go.ChangeShapes
def splitW:List UInt8→List (List UInt8)
 | []=>[[]]
 | c :: r=>if c=32 then [] :: splitW r else match splitW r with
  | []=>[[c]]
  | w :: ws=>(c :: w) :: ws
theorem zs15 (l:List UInt8):splitW l≠[]:=by
 cases l with
 | nil=>simp [splitW]
 | cons c r=>
  rw [splitW]
  split
  ·simp
  ·split <;> simp
theorem zr2:∀ {w:List UInt8},noBlank w→splitW w=[w]:=by
 intro w
 induction w with
 | nil=>intro _;rfl
 | cons c r ih=>
  intro h
  rw [splitW,if_neg (h c (by simp)),ih (fun x hx=>h x (by simp [hx]))]
theorem zl5:∀ {w:List UInt8} (r:List UInt8),noBlank w→splitW (w ++ 32 :: r)=w :: splitW r:=by
 intro w r
 induction w with
 | nil=>intro _;simp [splitW]
 | cons c w ih=>
  intro h
  rw [List.cons_append,splitW,if_neg (h c (by simp)),ih (fun x hx=>h x (by simp [hx]))]
theorem zq10:∀ (ws:List (List UInt8)) (w0:List UInt8),noBlank w0→(∀ w ∈ ws,noBlank w)→splitW (w0 ++ ws.flatMap (32 :: ·))=w0 :: ws:=by
 intro ws
 induction ws with
 | nil=>intro w0 h0 _;simp [zr2 h0]
 | cons w ws ih=>
  intro w0 h0 hws
  rw [List.flatMap_cons,List.cons_append,zl5 _ h0,ih w (hws w (by simp)) (fun x hx=>hws x (by simp [hx]))]
def digOk (c:UInt8):Bool:=decide (48≤c.toNat∧c.toNat≤57)
def valOf (l:List UInt8):Nat:=l.foldl (fun n c=>10 * n+(c.toNat - 48)) 0
def rnumOf (w:List UInt8):Int:=
 if w.length<1 ∨ 7<w.length then -1
 else if w.all digOk=true then(if Lib.itoa (valOf w:Int)=w then(valOf w:Int) else -1)
 else -1
def WordsAt (s:List UInt8) (f i:Nat) (done:List (List UInt8)):Prop:=
 (f≤i∧i≤s.length∧done.length≤f∧splitW s=done ++ splitW (s.drop f)∧noBlank ((s.drop f).take (i - f))) ∨ (i=s.length+1∧splitW s=done∧done.length≤s.length+1)
theorem WordsAt.zero (s:List UInt8):WordsAt s 0 0 []:=.inl ⟨Nat.le_refl _,Nat.zero_le _,Nat.le_refl _,rfl,fun c hc=>by simp at hc⟩
theorem zz10 (s:List UInt8) (f i:Nat) (c:UInt8) (hf:f≤i) (hc:s[i]?=some c):s.drop f=(s.drop f).take (i - f) ++ c :: s.drop (i+1):=by
 have hi:i<s.length:=(List.getElem?_eq_some_iff.1 hc).1
 have h1:(s.drop f).drop (i - f)=c :: s.drop (i+1):=by
  rw [List.drop_drop,show f+(i - f)=i by omega,List.drop_eq_getElem_cons hi]
  have:s[i]=c:=(List.getElem?_eq_some_iff.1 hc).2
  rw [this]
 rw [← h1,List.take_append_drop]
theorem WordsAt.blank {s:List UInt8} {f i:Nat} {done:List (List UInt8)} (h:WordsAt s f i done) (hc:s[i]?=some 32):WordsAt s (i+1) (i+1) (done ++ [(s.drop f).take (i - f)]):=by
 have hi:i<s.length:=(List.getElem?_eq_some_iff.1 hc).1
 rcases h with⟨h1,h2,h3,h4,h5⟩ | ⟨h1,_,_⟩
 ·refine .inl ⟨Nat.le_refl _,by omega,by simp;omega,?_,fun c hc=>by simp at hc⟩
  have h6:=zl5 (s.drop (i+1)) h5
  rw [← zz10 s f i 32 h1 hc] at h6
  rw [h4,h6]
  simp
 ·omega
theorem WordsAt.more {s:List UInt8} {f i:Nat} {done:List (List UInt8)} {c:UInt8} (h:WordsAt s f i done) (hc:s[i]?=some c) (hn:c≠32):WordsAt s f (i+1) done:=by
 have hi:i<s.length:=(List.getElem?_eq_some_iff.1 hc).1
 rcases h with⟨h1,h2,h3,h4,h5⟩ | ⟨h1,_,_⟩
 ·refine .inl ⟨by omega,by omega,h3,h4,fun x hx=>?_⟩
  have e:(s.drop f).take (i+1 - f)=(s.drop f).take (i - f) ++ [c]:=by
   have hl:i - f<(s.drop f).length:=by simp;omega
   rw [show i+1 - f=(i - f)+1 by omega,List.take_succ_eq_append_getElem hl]
   congr 2
   rw [List.getElem_drop]
   have:s[i]?=some s[i]:=List.getElem?_eq_getElem hi
   rw [this] at hc
   injection hc with hc
   rw [← hc]
   congr 1
   omega
  rw [e] at hx
  rcases List.mem_append.1 hx with hx | hx
  ·exact h5 x hx
  ·have:x=c:=by simpa using hx
   rw [this]
   exact hn
 ·omega
theorem WordsAt.last {s:List UInt8} {f:Nat} {done:List (List UInt8)} (h:WordsAt s f s.length done):WordsAt s (s.length+1) (s.length+1) (done ++ [(s.drop f).take (s.length - f)]):=by
 rcases h with⟨h1,h2,h3,h4,h5⟩ | ⟨h1,_,_⟩
 ·have e:(s.drop f).take (s.length - f)=s.drop f:=List.take_of_length_le (by simp)
  rw [e] at h5 ⊢
  refine .inr ⟨rfl,by rw [h4,zr2 h5],by simp;omega⟩
 ·omega
end Go.Proofs.YtlmbiafloiompaaGreatDoor

namespace Go.Proofs.YtlmbiafloiompaaGreatDoor
open Go
def numUpto (w:List UInt8) (g:Int):Option Int:=if 0≤rnumOf w∧rnumOf w≤g then some (rnumOf w) else none
def slashAt:List UInt8→Option (List UInt8 × List UInt8)
 | []=>none
 | c :: r=>if c=47 then some ([],r) else(slashAt r).map fun p=>(c :: p.1,p.2)
def funOf (w:List UInt8) (least:Int):Option (ByteArray × Int):=
 match slashAt w with
 | none=>none
 | some (a,d)=>match numUpto d 8 with
  | none=>none
  | some n=>if least≤n∧nameOk (bs a)=true then some (bs a,n) else none
def labelOf (w:List UInt8):Option Int:=match w with
 | 64 :: d=>numUpto d 1023
 | _=>none
def placeOf {α:Type} [DecidableEq α] (l:List α) (x:α):Nat:=l.findIdx fun y=>decide (y=x)
def addTo {α:Type} [DecidableEq α] (l:List α) (x:α):List α:=if x ∈ l then l else l ++ [x]
def predStep (o:Ob) (f:ByteArray × Int):Int × Ob:=
 if findFrom f.1 f.2 0 o.preds<0 then((o.preds.length:Int),{ o with preds:=o.preds ++ [(f.1,f.2,65535)] }) else(findFrom f.1 f.2 0 o.preds,o)
def opdOf (kind:Int) (w:List UInt8):Option Int:=
 match numOf kind w with
 | none=>none
 | some n=>if lowOf kind≤n∧n≤highOf kind∧wordOf kind n=w then some n else none
def opStep (op kind:Int) (w:List UInt8) (o:Ob):Option (Int × Ob):=
 if kind=3 then(if nameOk (bs w)=true then some ((placeOf o.atoms (bs w):Int),{ o with atoms:=addTo o.atoms (bs w) }) else none)
 else if kind=4 then(funOf w 1).map fun f=>((placeOf o.funs f:Int),{ o with funs:=addTo o.funs f })
 else if kind=7 then(funOf w 0).map fun f=>predStep o f
 else if kind=8 then
  (if w=[45] then(if op=26 then some (65535,o) else none) else(labelOf w).map fun n=>(n,o))
 else(opdOf kind w).map fun n=>(n,o)
def opsStep (op:Int):List Int→List (List UInt8)→Ob→Option (List Int × Ob)
 | [],_,o=>some ([],o)
 | k :: ks,ws,o=>match opStep op k (ws.headD []) o with
  | none=>none
  | some (x,o')=>(opsStep op ks ws.tail o').map fun r=>(x :: r.1,r.2)
structure St where
 ob:Ob
 labs:List (Int × Int)
 pts:List (Int × Int × Bool)
def startSt:St:=⟨emptyOb,[],[]⟩
def labOf (labs:List (Int × Int)) (k:Int):Option Int:=(labs.find? fun p=>p.1 == k).map (·.2)
def predLine (n:Int) (w:List UInt8) (s:St):Except Int St:=
 match funOf w 0 with
 | none=>.error 17
 | some f=>
  if ((predStep s.ob f).2.preds.getD (predStep s.ob f).1.toNat (⟨#[]⟩,0,0)).2.2≠65535 then .error 11
  else .ok { s with ob:={ (predStep s.ob f).2 with preds:=(predStep s.ob f).2.preds.set (predStep s.ob f).1.toNat (f.1,f.2,(s.ob.code.length:Int)) },pts:=s.pts ++ [(n,(s.ob.code.length:Int),true)] }
def labelLine (w:List UInt8) (s:St):Except Int St:=
 match numUpto w 1023 with
 | none=>.error 17
 | some k=>if (labOf s.labs k).isSome=true then .error 11 else .ok { s with labs:=s.labs ++ [(k,(s.ob.code.length:Int))] }
def instrLine (n:Int) (l:List UInt8) (s:St):Except Int St:=
 if namedOf (bs ((splitW l).getD 0 []))<0 ∨ (splitW l).length - 1≠(opsOf (namedOf (bs ((splitW l).getD 0 [])))).length then .error 17
 else match opsStep (namedOf (bs ((splitW l).getD 0 []))) (opsOf (namedOf (bs ((splitW l).getD 0 [])))) (splitW l).tail s.ob with
  | none=>.error 17
  | some (x,o')=>.ok { s with ob:={ o' with code:=o'.code ++ [insOf (namedOf (bs ((splitW l).getD 0 []))) x] },pts:=s.pts ++ [(n,(s.ob.code.length:Int),false)] }
def predWord:List UInt8:=[112,114,101,100,32]
def lineStep (n:Int) (l:List UInt8) (s:St):Except Int St:=
 if predWord.isPrefixOf l=true then predLine n (l.drop 5) s
 else match l with
  | 64 :: d=>labelLine d s
  | _=>instrLine n l s
def bigO (o:Ob):Bool:=bigB o.atoms.length o.funs.length o.preds.length o.code.length
def linesStep:Nat→List (List UInt8)→St→Except (Int × Int) St
 | _,[],s=>.ok s
 | n,l :: ls,s=>match lineStep n l s with
  | .error e=>.error (e,n)
  | .ok s'=>if bigO s'.ob=true then .error (2,n) else linesStep (n+1) ls s'
def placeArgs (labs:List (Int × Int)) (m:Nat):List Int→List Int→Option (List Int)
 | [],xs=>some xs
 | k :: ks,xs=>
  if k=8∧xs.headD 0≠65535 then match labOf labs (xs.headD 0) with
   | none=>none
   | some x=>if (m:Int)≤x then none else(placeArgs labs m ks xs.tail).map (x :: ·)
  else(placeArgs labs m ks xs.tail).map (xs.headD 0 :: ·)
def placeIns (labs:List (Int × Int)) (m:Nat) (i:Ins):Option Ins:=(placeArgs labs m (opsOf i.1) (argOf i)).map fun l=>insOf i.1 l
def ptStep (labs:List (Int × Int)) (o:Ob) (p:Int × Int × Bool):Except (Int × Int) Ob:=
 if p.2.2=true then
  (if (o.code.length:Int)≤p.2.1 ∨ 1<(o.preds.filter fun q=>q.2.2 == p.2.1).length then .error (7,p.1) else .ok o)
 else match placeIns labs o.code.length (o.code.getD p.2.1.toNat (0,0,0,0,0)) with
  | none=>.error (10,p.1)
  | some i=>.ok { o with code:=o.code.set p.2.1.toNat i }
def ptsStep (labs:List (Int × Int)):List (Int × Int × Bool)→Ob→Except (Int × Int) Ob
 | [],o=>.ok o
 | p :: ps,o=>match ptStep labs o p with
  | .error e=>.error e
  | .ok o'=>ptsStep labs ps o'
def asmOf (ls:List (List UInt8)):Ob × Int × Int:=
 match linesStep 0 ls startSt with
 | .error (e,n)=>(emptyOb,e,n)
 | .ok s=>match ptsStep s.labs s.pts s.ob with
  | .error (e,n)=>(emptyOb,e,n)
  | .ok o=>(o,0,-1)
def argW (op kind:Int) (w:List UInt8):Option Int:=
 match numOf kind w with
 | none=>none
 | some n=>if mayB op kind n=true∧wordOf kind n=w then some n else none
def argsW (op:Int):List Int→List (List UInt8)→Option (List Int)
 | [],_=>some []
 | k :: ks,ws=>match argW op k (ws.headD []) with
  | none=>none
  | some x=>(argsW op ks ws.tail).map (x :: ·)
theorem zu13 {op kind n:Int} {w:List UInt8} (h:argW op kind w=some n):mayB op kind n=true∧wordOf kind n=w:=by
 unfold argW at h
 split at h
 ·cases h
 ·rename_i m hm
  split at h
  ·rename_i hc
   injection h with h
   subst h
   exact hc
  ·cases h
theorem argW_of {op:Int} {k:Nat} {n:Int} {w:List UInt8} (hk:k<(opsOf op).length) (hm:mayB op ((opsOf op).getD k 0) n=true) (hw:wordOf ((opsOf op).getD k 0) n=w):argW op ((opsOf op).getD k 0) w=some n:=by
 have hkd:=zg4 op k
 have hb:=(za16 hkd.1 hkd.2 (zr9 hk hm)).1
 rw [hw] at hb
 unfold argW
 rw [hb]
 simp only
 rw [if_pos ⟨hm,hw⟩]
theorem zv13 {op:Int}:∀ {ks:List Int} {ws:List (List UInt8)} {L:List Int},argsW op ks ws=some L→L.length=ks.length
 | [],_,L,h=>by
  injection h with h
  subst h
  rfl
 | k :: ks,ws,L,h=>by
  rw [argsW] at h
  split at h
  ·cases h
  ·rename_i x hx
   cases h1:argsW op ks ws.tail with
   | none=>rw [h1] at h;cases h
   | some M=>
    rw [h1] at h
    injection h with h
    subst h
    simp [zv13 h1]
theorem zs12 {op:Int}:∀ (ks:List Int) (ws:List (List UInt8)) (L:List Int),argsW op ks ws=some L ↔ L.length=ks.length∧∀ k,k<ks.length→argW op (ks.getD k 0) (ws.getD k [])=some (L.getD k 0)
 | [],ws,L=>by
  rw [argsW]
  constructor
  ·intro h
   injection h with h
   subst h
   exact⟨rfl,fun k hk=>absurd hk (by simp)⟩
  ·rintro⟨h,_⟩
   rw [List.length_eq_zero_iff.1 h]
 | k :: ks,ws,L=>by
  have ih:=zs12 (op:=op) ks ws.tail
  have hd:ws.headD []=ws.getD 0 []:=by cases ws <;> rfl
  have ht:∀ j,ws.tail.getD j []=ws.getD (j+1) []:=fun j=>by cases ws <;> simp
  rw [argsW,hd]
  constructor
  ·intro h
   split at h
   ·cases h
   ·rename_i x hx
    cases h1:argsW op ks ws.tail with
    | none=>rw [h1] at h;cases h
    | some M=>
     rw [h1] at h
     injection h with h
     subst h
     obtain⟨g1,g2⟩:=(ih M).1 h1
     refine⟨by simp [g1],fun j hj=>?_⟩
     cases j with
     | zero=>simpa using hx
     | succ j=>
      have:=g2 j (by simpa using hj)
      rw [ht] at this
      simpa using this
  ·rintro⟨h1,h2⟩
   cases L with
   | nil=>simp at h1
   | cons x M=>
    have h0:=h2 0 (by simp)
    simp only [List.getD_cons_zero] at h0
    rw [h0]
    simp only
    have h3:=(ih M).2 ⟨by simpa using h1,fun j hj=>by
     have:=h2 (j+1) (by simpa using hj)
     simp only [List.getD_cons_succ] at this
     rw [ht]
     exact this⟩
    rw [h3]
    rfl
theorem zu16 (K:Nat) (hK:K<27) (ws:List (List UInt8)) (hn:ws.length=(opsOf (K:Int)).length) (hnb:∀ w ∈ ws,noBlank w) :
  parseP ((nameAt K).data.toList ++ ws.flatMap (32 :: ·))=(argsW (K:Int) (opsOf (K:Int)) ws).map fun L=>((K:Int),padded L):=by
 have hfew:=zv1 (K:Int)
 have hnm:∀ k,k<27→noBlank (nameAt k).data.toList:=fun k hk c hc e=>by
  subst e
  have:=zg8 k hk
  simp [hc] at this
 have hname:nameOf (K:Int)=nameAt K:=by rw [nameOf,if_pos (by omega)];rfl
 cases h:argsW (K:Int) (opsOf (K:Int)) ws with
 | some L=>
  obtain⟨g1,g2⟩:=(zs12 _ _ _).1 h
  have hat:∀ k,k<(opsOf (K:Int)).length→mayB (K:Int) ((opsOf (K:Int)).getD k 0) (L.getD k 0)=true∧wordOf ((opsOf (K:Int)).getD k 0) (L.getD k 0)=ws.getD k []:=fun k hk=>zu13 (g2 k hk)
  have hpad:∀ k,k<4→(padded L).getD k 0=L.getD k 0:=fun k hk=>by
   match k,hk with
   | 0,_=>rfl
   | 1,_=>rfl
   | 2,_=>rfl
   | 3,_=>rfl
  have hr:rightB (K:Int) (padded L)=true:=by
   rw [rightB,Bool.and_eq_true,List.all_eq_true]
   refine⟨decide_eq_true (by omega),fun k hk=>?_⟩
   have hk4:k<4:=List.mem_range.1 hk
   rw [hpad k hk4]
   by_cases hkn:k<(opsOf (K:Int)).length
   ·exact(hat k hkn).1
   ·have e1:(opsOf (K:Int)).getD k 0=0:=by rw [List.getD_eq_getElem?_getD,List.getElem?_eq_none (by omega)];rfl
    have e2:L.getD k 0=0:=by rw [List.getD_eq_getElem?_getD,List.getElem?_eq_none (by omega)];rfl
    rw [e1,e2]
    refine decide_eq_true (.inr ?_)
    have a:lowOf 0=0:=rfl
    have b:highOf 0=0:=rfl
    omega
  have ht:textOf (K:Int) (padded L)=(nameAt K).data.toList ++ ws.flatMap (32 :: ·):=by
   rw [textOf,if_pos hr,hname,zv10]
   congr 2
   refine List.ext_getElem (by simp [hn]) fun k h1 h2=>?_
   have hk:k<(opsOf (K:Int)).length:=by simpa using h1
   rw [List.getElem_map,List.getElem_range,hpad k (by omega),(hat k hk).2,List.getD_eq_getElem?_getD,List.getElem?_eq_getElem h2]
   rfl
  have hb:=zk20 (op:=(K:Int)) (a:=L.getD 0 0) (b:=L.getD 1 0) (c:=L.getD 2 0) (d:=L.getD 3 0) hr
  have hb2:parseP (textOf (K:Int) (padded L))=some ((K:Int),padded L):=hb
  rw [ht] at hb2
  rw [hb2]
  rfl
 | none=>
  cases hp:parseP ((nameAt K).data.toList ++ ws.flatMap (32 :: ·)) with
  | none=>rfl
  | some x=>
   exfalso
   obtain⟨op,l⟩:=x
   obtain⟨ht,hr,L,hL⟩:=zy9 hp
   have hrg:=zi10 hr
   obtain⟨K2,rfl⟩:=Int.eq_ofNat_of_zero_le hrg.1
   have hK2:K2<27:=by omega
   have hname2:nameOf (K2:Int)=nameAt K2:=by rw [nameOf,if_pos hrg];rfl
   have hval:∀ k,k<(opsOf (K2:Int)).length→noBlank (wordOf ((opsOf (K2:Int)).getD k 0) (l.getD k 0)):=fun k hk=>by
    have hkd:=zg4 (K2:Int) k
    have hf:=zv1 (K2:Int)
    exact(za16 hkd.1 hkd.2 (zr9 hk (zw2 hr k (by omega)))).2
   have hs:=congrArg splitW ht
   rw [zq10 _ _ (hnm K hK) hnb,textOf,if_pos hr,hname2,zv10,zq10 _ _ (hnm K2 hK2) (fun w hw=>by
    obtain⟨j,hj,rfl⟩:=List.mem_map.1 hw
    exact hval j (List.mem_range.1 hj))] at hs
   injection hs with h1 h2
   have hKK:K2=K:=by
    have e:nameAt K2=nameAt K:=ByteArray.ext (Array.ext' h1)
    have a:=zo7 K2 hK2
    have b:=zo7 K hK
    rw [e,b] at a
    omega
   subst hKK
   have hsome:argsW (K2:Int) (opsOf (K2:Int)) ws=some ((List.range (opsOf (K2:Int)).length).map fun k=>l.getD k 0):=by
    refine(zs12 _ _ _).2 ⟨by simp,fun k hk=>?_⟩
    have hf:=zv1 (K2:Int)
    have e1:((List.range (opsOf (K2:Int)).length).map fun k=>l.getD k 0).getD k 0=l.getD k 0:=by
     rw [List.getD_eq_getElem?_getD,List.getElem?_map,List.getElem?_range hk]
     rfl
    rw [e1]
    refine argW_of hk (zw2 hr k (by omega)) ?_
    have e2:∀ f:Nat→List UInt8,((List.range (opsOf (K2:Int)).length).map f).getD k []=f k:=fun f=>by
     rw [List.getD_eq_getElem?_getD,List.getElem?_map,List.getElem?_range hk]
     rfl
    rw [← h2,e2]
   rw [h] at hsome
   cases hsome
def isNamedB (kind:Int) (w:List UInt8):Bool:=decide (kind=3 ∨ kind=4 ∨ kind=7 ∨ (kind=8∧w≠[45]))
def numStep (kind:Int) (w:List UInt8) (o:Ob):Option (Int × Ob):=
 if kind=3 then(if nameOk (bs w)=true then some ((placeOf o.atoms (bs w):Int),{ o with atoms:=addTo o.atoms (bs w) }) else none)
 else if kind=4 then(funOf w 1).map fun f=>((placeOf o.funs f:Int),{ o with funs:=addTo o.funs f })
 else if kind=7 then(funOf w 0).map fun f=>predStep o f
 else(labelOf w).map fun n=>(n,o)
def namesStep:List Int→List (List UInt8)→Ob→Option (List Int × List (List UInt8) × Ob)
 | [],_,o=>some ([],[],o)
 | k :: ks,ws,o=>
  if isNamedB k (ws.headD [])=true then match numStep k (ws.headD []) o with
   | none=>none
   | some (x,o')=>(namesStep ks ws.tail o').map fun r=>(x :: r.1,[48] :: r.2.1,r.2.2)
  else(namesStep ks ws.tail o).map fun r=>(0 :: r.1,ws.headD [] :: r.2.1,r.2.2)
def addL:List Int→List Int→List Int
 | [],_=>[]
 | x :: xs,ys=>(x+ys.headD 0) :: addL xs ys.tail
theorem zero_word (op kind:Int) (h:kind=3 ∨ kind=4 ∨ kind=7 ∨ kind=8):argW op kind [48]=some 0:=by
 have h1:numOf kind [48]=some 0:=by
  rcases h with rfl | rfl | rfl | rfl <;> decide +kernel
 have h2:wordOf kind 0=[48]:=by
  rcases h with rfl | rfl | rfl | rfl <;> decide +kernel
 have h3:mayB op kind 0=true:=by
  refine decide_eq_true (.inr ?_)
  rcases h with rfl | rfl | rfl | rfl <;> decide
 unfold argW
 rw [h1]
 simp only
 rw [if_pos ⟨h3,h2⟩]
theorem zi12 {op kind:Int} {w:List UInt8} {o:Ob} (h:isNamedB kind w=true):opStep op kind w o=numStep kind w o:=by
 have h0:=of_decide_eq_true h
 unfold opStep numStep
 rcases h0 with rfl | rfl | rfl | ⟨rfl,h1⟩
 ·rfl
 ·rfl
 ·rfl
 ·rw [if_neg (by decide),if_neg (by decide),if_neg (by decide),if_pos rfl,if_neg h1,if_neg (by decide),if_neg (by decide),if_neg (by decide)]
theorem dash_num:numOf 8 [45]=some 65535:=by decide +kernel
theorem dash_word:wordOf 8 65535=[45]:=by decide +kernel
theorem zj12 {op kind:Int} {w:List UInt8} {o:Ob} (h:isNamedB kind w=false) (hop:op=26→kind=8):opStep op kind w o=(argW op kind w).map fun n=>(n,o):=by
 have h:=of_decide_eq_false h
 unfold opStep
 rw [if_neg (fun e=>h (.inl e)),if_neg (fun e=>h (.inr (.inl e))),if_neg (fun e=>h (.inr (.inr (.inl e))))]
 by_cases h8:kind=8
 ·subst h8
  have hw:w=[45]:=Classical.byContradiction fun e=>h (.inr (.inr (.inr ⟨rfl,e⟩)))
  subst hw
  rw [if_pos rfl,if_pos rfl]
  unfold argW
  rw [dash_num]
  simp only
  by_cases ho:op=26
  ·rw [if_pos ho,if_pos ⟨decide_eq_true (.inl ⟨ho,rfl⟩),dash_word⟩]
   rfl
  ·rw [if_neg ho,if_neg (fun e=>by
    rcases of_decide_eq_true e.1 with⟨h1,_⟩ | ⟨_,h2⟩
    ·exact ho h1
    ·exact absurd h2 (by decide))]
   rfl
 ·rw [if_neg h8]
  have hm:∀ n,mayB op kind n=true ↔ lowOf kind≤n∧n≤highOf kind:=fun n=>by
   constructor
   ·intro e
    rcases of_decide_eq_true e with⟨h1,_⟩ | e
    ·exact absurd (hop h1) h8
    ·exact e
   ·exact fun e=>decide_eq_true (.inr e)
  unfold opdOf argW
  cases numOf kind w with
  | none=>rfl
  | some n=>
   simp only
   by_cases hc:mayB op kind n=true∧wordOf kind n=w
   ·rw [if_pos hc,if_pos ⟨((hm n).1 hc.1).1,((hm n).1 hc.1).2,hc.2⟩]
   ·rw [if_neg hc,if_neg (fun e=>hc ⟨(hm n).2 ⟨e.1,e.2.1⟩,e.2.2⟩)]
theorem zk12 (op:Int):∀ (ks:List Int) (ws:List (List UInt8)) (o:Ob),(op=26→∀ k ∈ ks,k=8) →
  opsStep op ks ws o=match namesStep ks ws o with
   | none=>none
   | some (ns,ws',o')=>(argsW op ks ws').map fun L=>(addL L ns,o')
 | [],ws,o,_=>rfl
 | k :: ks,ws,o,hop=>by
  have ih:=fun ws o=>zk12 op ks ws o (fun h j hj=>hop h j (by simp [hj]))
  rw [opsStep,namesStep]
  cases hn:isNamedB k (ws.headD []) with
  | true=>
   rw [zi12 hn]
   simp only [if_pos]
   cases hs:numStep k (ws.headD []) o with
   | none=>rfl
   | some r=>
    obtain⟨x,o1⟩:=r
    simp only
    rw [ih]
    have hz:argW op k [48]=some 0:=zero_word op k (by
     rcases of_decide_eq_true hn with h | h | h | h
     ·exact .inl h
     ·exact .inr (.inl h)
     ·exact .inr (.inr (.inl h))
     ·exact .inr (.inr (.inr h.1)))
    cases hs2:namesStep ks ws.tail o1 with
    | none=>rfl
    | some r=>
     obtain⟨ns,ws',o'⟩:=r
     simp only [Option.map_some,argsW,List.headD_cons,List.tail_cons,hz]
     cases argsW op ks ws' with
     | none=>rfl
     | some L=>simp [addL]
  | false=>
   rw [zj12 hn (fun h=>hop h k (by simp))]
   simp only [Bool.false_eq_true,if_false]
   cases ha:argW op k (ws.headD []) with
   | none=>
    simp only [Option.map_none]
    cases hs2:namesStep ks ws.tail o with
    | none=>rfl
    | some r=>
     obtain⟨ns,ws',o'⟩:=r
     simp only [Option.map_some,argsW,List.headD_cons,ha,Option.map_none]
   | some x=>
    simp only [Option.map_some]
    rw [ih]
    cases hs2:namesStep ks ws.tail o with
    | none=>rfl
    | some r=>
     obtain⟨ns,ws',o'⟩:=r
     simp only [Option.map_some,argsW,List.headD_cons,List.tail_cons,ha]
     cases argsW op ks ws' with
     | none=>rfl
     | some L=>simp [addL]
end Go.Proofs.YtlmbiafloiompaaGreatDoor

namespace Go.Proofs.YtlmbiafloiompaaGreatDoor
open Go Go.RowKit Go.WideShapes Go.ChangeShapes
theorem atois:((List.range 1024).all fun n=>(match Lib.atoiAll (Lib.itoa (n:Int)) with | .ok v=>v == (n:Int) | _=>false) && rnumOf (Lib.itoa (n:Int)) == (n:Int))=true:=by decide +kernel
theorem atoi_at {n:Int} (h0:0≤n) (h1:n≤1023):Lib.atoiAll (Lib.itoa n)=.ok n∧rnumOf (Lib.itoa n)=n:=by
 obtain⟨N,rfl⟩:=Int.eq_ofNat_of_zero_le h0
 have h:=List.all_eq_true.1 atois N (List.mem_range.2 (by omega))
 rw [Bool.and_eq_true] at h
 refine⟨?_,beq_iff_eq.1 h.2⟩
 have h2:=h.1
 split at h2
 ·rename_i v hv
  rw [hv,beq_iff_eq.1 h2]
 ·cases h2
theorem zj20 (w:List UInt8) (g:Int) (hg:g≤1023) :
  numUpto w g=match Lib.atoiAll w with | .ok v=>(if 0≤v∧v≤g∧Lib.itoa v=w then some v else none) | _=>none:=by
 unfold numUpto
 by_cases h:0≤rnumOf w∧rnumOf w≤g
 ·rw [if_pos h]
  have hw:Lib.itoa (rnumOf w)=w:=by
   have h0:=h.1
   unfold rnumOf at h0 ⊢
   split
   ·rename_i hc
    rw [if_pos hc] at h0
    omega
   ·rename_i hc
    rw [if_neg hc] at h0
    split
    ·rename_i hd
     rw [if_pos hd] at h0
     split
     ·rename_i he
      exact he
     ·rename_i he
      rw [if_neg he] at h0
      omega
    ·rename_i hd
     rw [if_neg hd] at h0
     omega
  have ha:=(atoi_at h.1 (by omega)).1
  rw [hw] at ha
  rw [ha]
  simp only
  rw [if_pos ⟨h.1,h.2,hw⟩]
 ·rw [if_neg h]
  split
  ·rename_i v hv
   split
   ·rename_i hc
    exfalso
    have:=(atoi_at hc.1 (by omega)).2
    rw [hc.2.2] at this
    rw [this] at h
    exact h ⟨hc.1,hc.2.1⟩
   ·rfl
  ·rfl
theorem zd12:∀ {w:List UInt8},slashAt w=none→Lib.indexByte w 47 = -1
 | [],_=>rfl
 | c :: r,h=>by
  rw [slashAt] at h
  split at h
  ·cases h
  ·rename_i hc
   have hr:slashAt r=none:=by
    cases hs:slashAt r with
    | none=>rfl
    | some p=>rw [hs] at h;cases h
   rw [Lib.indexByte,if_neg (by simpa using hc),zd12 hr]
   rfl
theorem zv7:∀ {w a d:List UInt8},slashAt w=some (a,d)→Lib.indexByte w 47=(a.length:Int)∧w=a ++ 47 :: d
 | [],_,_,h=>by cases h
 | c :: r,a,d,h=>by
  rw [slashAt] at h
  split at h
  ·rename_i hc
   injection h with h
   injection h with h1 h2
   subst h1 h2 hc
   exact⟨by simp [Lib.indexByte],rfl⟩
  ·rename_i hc
   cases hs:slashAt r with
   | none=>rw [hs] at h;cases h
   | some p=>
    obtain⟨a',d'⟩:=p
    rw [hs] at h
    injection h with h
    injection h with h1 h2
    subst h1 h2
    obtain⟨g1,g2⟩:=zv7 hs
    rw [Lib.indexByte,if_neg (by simpa using hc),g1]
    refine⟨?_,by rw [g2];rfl⟩
    rw [if_neg (by
     intro e
     have:=beq_iff_eq.1 e
     omega)]
    simp
theorem zt17 {w:List UInt8} (h:slashAt w=none):Lib.cut w [47]=(w,[],false):=by
 unfold Lib.cut
 rw [Lib.index_one,zd12 h,if_neg (by decide)]
theorem zu17 {w a d:List UInt8} (h:slashAt w=some (a,d)):Lib.cut w [47]=(a,d,true):=by
 obtain⟨h1,h2⟩:=zv7 h
 unfold Lib.cut
 rw [Lib.index_one,h1,if_pos (by omega)]
 subst h2
 simp
theorem zl16 (kind:Int) (s:ByteArray) (w:World) :
  Calls Tryz.prog 81 #[.int .i64 kind,.string s] w fun e w'=>e=.returned (.bool (isNamedB kind s.data.toList))∧w=w':=by
 by_cases h3:kind=3
 ·subst h3
  go_enter Tryz.func81,Tryz.ntmps81
  go_wp2
  go_ret
  exact⟨rfl,rfl⟩
 by_cases h4:kind=4
 ·subst h4
  go_enter Tryz.func81,Tryz.ntmps81
  go_wp2
  go_ret
  exact⟨rfl,rfl⟩
 by_cases h7:kind=7
 ·subst h7
  go_enter Tryz.func81,Tryz.ntmps81
  go_wp2
  go_ret
  exact⟨rfl,rfl⟩
 by_cases h8:kind=8
 ·subst h8
  by_cases hs:s=⟨#[45]⟩
  ·subst hs
   go_enter Tryz.func81,Tryz.ntmps81
   go_wp2
   go_ret
   exact⟨rfl,rfl⟩
  ·have hX:Hid (isNamedB 8 s.data.toList=true):=hD (decide_eq_true (.inr (.inr (.inr ⟨rfl,fun e=>hs (ByteArray.ext (Array.ext' e))⟩))))
   have e45:(⟨#[45]⟩:ByteArray).toList=[45]:=by rw [ByteArray.toList_eq]
   have hn:(s.toList == [45])=false:=by rw [← e45];exact zz1 hs
   have hn2:(s.toList != [45])=true:=by rw [bne,hn];rfl
   have hn3:(s.toList == (⟨#[45]⟩:ByteArray).toList)=false:=zz1 hs
   have hn4:(s.toList != (⟨#[45]⟩:ByteArray).toList)=true:=by rw [bne,hn3];rfl
   clear hs e45
   go_enter Tryz.func81,Tryz.ntmps81
   go_wp2
   go_ret
   exact⟨by rw [hX.out];rfl,rfl⟩
 have hX:Hid (isNamedB kind s.data.toList=false):=hD (decide_eq_false (by
  rintro(h | h | h | ⟨h,_⟩)
  ·exact h3 h
  ·exact h4 h
  ·exact h7 h
  ·exact h8 h))
 have e3:(kind == 3)=false:=by simpa using h3
 have e4:(kind == 4)=false:=by simpa using h4
 have e7:(kind == 7)=false:=by simpa using h7
 have e8:(kind == 8)=false:=by simpa using h8
 clear h3 h4 h7 h8
 go_enter Tryz.func81,Tryz.ntmps81
 go_wp2
 go_ret
 exact⟨by rw [hX.out];rfl,rfl⟩
def OptNum (w:World) (r:Option Int) (e:Ending) (w':World):Prop:=e=.returned (.tuple #[.int .i64 (r.getD 0),.bool r.isSome])∧Below w.heap.size w w'
set_option maxHeartbeats 1000000 in
theorem zo5 (s:ByteArray) (hs:s.size≤1048576) (g:Int) (hg:g≤1023) (w:World) {B:Nat} (hp:LaidC B w) :
  Calls Tryz.prog 105 #[.string s,.int .i64 g] w (OptNum w (numUpto s.data.toList g)):=by
 unfold OptNum
 have HX:=hD (zj20 s.data.toList g hg)
 have HP:=hD hp
 by_cases hok:∃ v,Lib.atoiAll s.data.toList=.ok v
 case neg=>
  have hbad:∀ v,Lib.atoiAll s.data.toList≠.ok v:=fun v h=>hok ⟨v,h⟩
  have HY:Hid (numUpto s.data.toList g=none):=hD (by
   rw [HX.out]
   split
   ·rename_i v hv
    exact absurd hv (hbad v)
   ·rfl)
  have HA:=hD (fun w h=>zi9 s (by omega) hbad w (B:=B) h)
  clear hok hbad hp
  go_enter Tryz.func105,Tryz.ntmps105
  go_wp2_with (go_at_call 133;refine(HA.out _ HP.out).mono ?_;rintro e w2 ⟨v,N,rfl,hb⟩;have HB:=hD hb;clear hb)
  go_ret2
  exact⟨by rw [HY.out];rfl,HB.out⟩
 case pos=>
 obtain⟨v,hv⟩:=hok
 have HA:=hD (fun w=>Tryz.strconv_Atoi_ok s (by omega) v hv w)
 have HY:Hid (numUpto s.data.toList g=if 0≤v∧v≤g∧Lib.itoa v=s.data.toList then some v else none):=hD (by rw [HX.out,hv])
 clear hv hp
 by_cases h0:v<0
 ·have HZ:Hid (numUpto s.data.toList g=none):=hD (by rw [HY.out,if_neg (fun e=>by omega)])
  go_enter Tryz.func105,Tryz.ntmps105
  go_wp2_with (go_at_call 133;refine(HA.out _).mono ?_;rintro e w2 ⟨rfl,hw2⟩;have HB:=hD (zn2 hw2);clear hw2)
  go_ret2
  exact⟨by rw [HZ.out];rfl,HB.out⟩
 by_cases h1:g<v
 ·have HZ:Hid (numUpto s.data.toList g=none):=hD (by rw [HY.out,if_neg (fun e=>by omega)])
  go_enter Tryz.func105,Tryz.ntmps105
  go_wp2_with (go_at_call 133;refine(HA.out _).mono ?_;rintro e w2 ⟨rfl,hw2⟩;have HB:=hD (zn2 hw2);clear hw2)
  go_ret2
  exact⟨by rw [HZ.out];rfl,HB.out⟩
 have HI:=hD (fun w h=>zj6 v (by omega) (by omega) w (B:=B) h)
 by_cases he:Lib.itoa v=s.data.toList
 ·have HZ:Hid (numUpto s.data.toList g=some v):=hD (by rw [HY.out,if_pos ⟨by omega,by omega,he⟩])
  have e1:bs (Lib.itoa v)=s:=by rw [he,str_bs]
  rw [e1] at HI
  clear he e1
  go_enter Tryz.func105,Tryz.ntmps105
  go_wp2_with (first
   | (go_at_call 133;refine(HA.out _).mono ?_;rintro e w2 ⟨rfl,hw2⟩;have HB:=hD (zn2 hw2);clear hw2)
   | (go_at_call 134;refine(HI.out _ (HP.out.up HB.out)).mono ?_;rintro e w3 ⟨rfl,hb3⟩;have HB3:=hD (HB.out.trans (hb3.mono HB.out.size));clear hb3))
  go_ret2
  exact⟨by rw [HZ.out];rfl,HB3.out⟩
 ·have HZ:Hid (numUpto s.data.toList g=none):=hD (by rw [HY.out,if_neg (fun e=>he e.2.2)])
  have hn:((bs (Lib.itoa v)).toList == s.toList)=false:=zz1 (fun e=>he (by rw [← za4 (Lib.itoa v),e]))
  have hn2:((bs (Lib.itoa v)).toList != s.toList)=true:=by rw [bne,hn];rfl
  generalize bs (Lib.itoa v)=t at HI hn hn2
  clear he
  go_enter Tryz.func105,Tryz.ntmps105
  go_wp2_with (first
   | (go_at_call 133;refine(HA.out _).mono ?_;rintro e w2 ⟨rfl,hw2⟩;have HB:=hD (zn2 hw2);clear hw2)
   | (go_at_call 134;refine(HI.out _ (HP.out.up HB.out)).mono ?_;rintro e w3 ⟨rfl,hb3⟩;have HB3:=hD (HB.out.trans (hb3.mono HB.out.size));clear hb3))
  go_ret2
  exact⟨by rw [HZ.out];rfl,HB3.out⟩
theorem label_yes {w:List UInt8} (h:Lib.hasPrefix w [64]=true):labelOf w=numUpto (Lib.trimPrefix w [64]) 1023:=by
 unfold Lib.trimPrefix
 rw [if_pos h]
 cases w with
 | nil=>cases h
 | cons c d=>
  have hc:c=64:=by
   unfold Lib.hasPrefix at h
   simp [List.isPrefixOf] at h
   exact h.symm
  subst hc
  rfl
theorem label_no {w:List UInt8} (h:Lib.hasPrefix w [64]=false):labelOf w=none:=by
 cases w with
 | nil=>rfl
 | cons c d=>
  have hc:c≠64:=fun e=>by
   subst e
   unfold Lib.hasPrefix at h
   simp [List.isPrefixOf] at h
  unfold labelOf
  split
  ·rename_i d' he
   injection he with he _
   exact absurd he hc
  ·rfl
theorem zs6 (s:ByteArray) (hs:s.size≤1048576) (w:World) {B:Nat} (hp:LaidC B w) :
  Calls Tryz.prog 77 #[.string s] w (OptNum w (labelOf s.data.toList)):=by
 unfold OptNum
 have HC:=hD (fun w=>Tryz.strings_CutPrefix s ⟨#[64]⟩ w)
 cases h:Lib.hasPrefix s.data.toList [64] with
 | false=>
  have HX:=hD (label_no h)
  have h':Lib.hasPrefix s.data.toList (⟨#[64]⟩:ByteArray).data.toList=false:=h
  rw [h'] at HC
  clear h h'
  go_enter Tryz.func77,Tryz.ntmps77
  go_wp2_with (go_at_call 36;refine(HC.out _).mono ?_;rintro e w' ⟨rfl,rfl⟩)
  go_ret2
  exact⟨by rw [HX.out];rfl,Below.refl _ _⟩
 | true=>
  have HX:=hD (label_yes h)
  have h':Lib.hasPrefix s.data.toList (⟨#[64]⟩:ByteArray).data.toList=true:=h
  have ht:(Lib.trimPrefix s.data.toList [64]).length≤1048576:=by
   unfold Lib.trimPrefix
   have h1:s.data.toList.length=s.size:=by rw [Array.length_toList];rfl
   have h2:(s.data.toList.drop [(64:UInt8)].length).length≤s.data.toList.length:=by rw [List.length_drop];omega
   split
   ·exact Nat.le_trans h2 (by omega)
   ·omega
  rw [h'] at HC
  have HC2:Hid (∀ w:World,Calls Tryz.prog 36 #[.string s,.string ⟨#[64]⟩] w fun e w'=>e=.returned (.tuple #[.string (bs (Lib.trimPrefix s.data.toList [64])),.bool true])∧w'=w):=HC
  have HR:=hD (zo5 (bs (Lib.trimPrefix s.data.toList [64])) (by rw [zb4];exact ht) 1023 (by decide) w hp)
  unfold OptNum at HR
  rw [za4,← HX.out] at HR
  generalize labelOf s.data.toList=r at HR
  generalize bs (Lib.trimPrefix s.data.toList [64])=t at HR HC2
  clear h h' ht HC HX
  go_enter Tryz.func77,Tryz.ntmps77
  go_wp2_with (first
   | (go_at_call 36;refine(HC2.out _).mono ?_;rintro e w' ⟨rfl,rfl⟩)
   | (go_at_call 105;refine HR.out.mono ?_;rintro e w3 ⟨rfl,hb3⟩;have HB3:=hD hb3;clear hb3))
  go_ret2
  exact⟨rfl,HB3.out⟩
def OptFun (w:World) (r:Option (ByteArray × Int)) (e:Ending) (w':World):Prop:=e=.returned (.tuple #[.agg #[.string (r.getD (⟨#[]⟩,0)).1,.int .i64 (r.getD (⟨#[]⟩,0)).2],.bool r.isSome])∧Below w.heap.size w w'
theorem LaidC.drewN {B:Nat} {w:World} (h:LaidC B w) (n:Nat):LaidC B (w.drewN n):=h.up ⟨rfl,rfl,rfl,Nat.le_refl _,fun _ _=>rfl⟩
theorem zj5 {P:Program} {fn:Func} {Q:Ending→World→Prop} {T:Array Value} {w2:World} {G:Nat} {t:TypeId} {z0 z1 a b x:Value} (hb:Box w2 G t #[z0,z1])
  (hres:∀ W:World,W.cell? ⟨G,0,none⟩=some a→W.cell? ⟨G,1,none⟩=some b→(results fn T).run P W=.ok (.tuple #[.agg #[a,b],x]) W)
  (hQ:∀ W:World,Box W G t #[a,b]→Fr (fun k=>k=G) w2 W→Q (.returned (.tuple #[.agg #[a,b],x])) W) :
  bodyPost P fn Q .ret { tmps:=T,defers:=[] } ((w2.setCell ⟨G,0,none⟩ a).setCell ⟨G,1,none⟩ b):=by
 have h4:Box ((w2.setCell ⟨G,0,none⟩ a).setCell ⟨G,1,none⟩ b) G t #[a,b]:=by
  have:=(hb.set_ 0 a).set_ 1 b
  simpa using this
 have hf:Fr (fun k=>k=G) w2 ((w2.setCell ⟨G,0,none⟩ a).setCell ⟨G,1,none⟩ b):=
  ((Fr.refl (fun b=>b=G) w2).setCell (p:=⟨G,0,none⟩) (.inl rfl) _).setCell (p:=⟨G,1,none⟩) (.inl rfl) _
 exact bodyPost_ret (hres _ (h4.cell 0) (h4.cell 1)) rfl (hQ _ h4 hf)
theorem funOf_cut (w:List UInt8) (g:Int):funOf w g=match numUpto (Lib.cut w [47]).2.1 8 with
  | none=>none
  | some n=>if g≤n∧nameOk (bs (Lib.cut w [47]).1)=true then some (bs (Lib.cut w [47]).1,n) else none:=by
 unfold funOf
 cases h:slashAt w with
 | none=>
  rw [zt17 h]
  rfl
 | some p=>
  obtain⟨a,d⟩:=p
  rw [zu17 h]
  try rfl
theorem cut_len (w:List UInt8):(Lib.cut w [47]).1.length≤w.length∧(Lib.cut w [47]).2.1.length≤w.length:=by
 cases h:slashAt w with
 | none=>
  rw [zt17 h]
  exact⟨Nat.le_refl _,Nat.zero_le _⟩
 | some p=>
  obtain⟨a,d⟩:=p
  rw [zu17 h]
  have:=(zv7 h).2
  rw [this,List.length_append,List.length_cons]
  constructor <;> simp <;> omega
set_option maxHeartbeats 2000000 in
theorem zx5 (s:ByteArray) (hs:s.size≤1048576) (g:Int) (w:World) {B:Nat} (hp:LaidC B w) :
  Calls Tryz.prog 74 #[.string s,.int .i64 g] w (OptFun w (funOf s.data.toList g)):=by
 unfold OptFun
 obtain⟨ml,hml⟩:=hp.len
 have hb0:=za w (.cells #[.string ⟨#[]⟩,.int .i64 0] 61)
 have hsz:s.data.toList.length=s.size:=by rw [Array.length_toList];rfl
 have hcl:=cut_len s.data.toList
 have HF:=hD (funOf_cut s.data.toList g)
 have HC:=Tryz.strings_Cut s ⟨#[47]⟩ ml (w.alloc (.cells #[.string ⟨#[]⟩,.int .i64 0] 61)) (by omega) ((hb0.cell (p:=⟨1,0,none⟩) (Nat.lt_of_lt_of_le hp.low.2.2.2 hp.size)).trans hml)
 have HC2:Hid (Calls Tryz.prog 104 #[.string s,.string ⟨#[47]⟩] (w.alloc (.cells #[.string ⟨#[]⟩,.int .i64 0] 61)) fun e w'=>e=.returned (.tuple #[.string (bs (Lib.cut s.data.toList [47]).1),.string (bs (Lib.cut s.data.toList [47]).2.1),.bool (Lib.cut s.data.toList [47]).2.2])∧∃ n,w'=(w.alloc (.cells #[.string ⟨#[]⟩,.int .i64 0] 61)).drewN n):=hD HC
 have HB0:=hD hb0
 have HP0:=hD (hp.up hb0)
 have HBX:=hD (Box.new w 61 #[.string ⟨#[]⟩,.int .i64 0])
 have h1:(bs (Lib.cut s.data.toList [47]).1).size≤maxLen:=by rw [zb4];unfold maxLen;omega
 have h2:(bs (Lib.cut s.data.toList [47]).2.1).size≤1048576:=by rw [zb4];omega
 have HN:=hD (fun w h=>zo5 (bs (Lib.cut s.data.toList [47]).2.1) h2 8 (by decide) w (B:=B) h)
 unfold OptNum at HN
 rw [za4] at HN
 have HT:=hD (fun w=>zu10 (bs (Lib.cut s.data.toList [47]).1) w h1)
 generalize funOf s.data.toList g=r at HF
 generalize numUpto (Lib.cut s.data.toList [47]).2.1 8=rn at HF HN
 generalize bs (Lib.cut s.data.toList [47]).1=ta at HF HC2 HT
 generalize bs (Lib.cut s.data.toList [47]).2.1=td at HC2 HN
 generalize (Lib.cut s.data.toList [47]).2.2=tb at HC2
 clear HC hb0 hsz hcl h1 h2 hml hp
 cases rn with
 | none=>
  have HX:Hid (r=none):=HF
  go_enter Tryz.func74,Tryz.ntmps74
  go_upto_region 2 with(go_at_call 104;refine HC2.out.mono ?_;rintro e w2 ⟨rfl,n2,rfl⟩)
  go_upto_region 3 with(go_at_call 105;refine(HN.out _ (HP0.out.drewN n2)).mono ?_;rintro e w3 ⟨rfl,hb3⟩;have HB3:=hD ((zo HB0.out n2).trans (hb3.mono HB0.out.size));have hx3:=(HBX.out.drewN n2).below hb3 HBX.out.lt;have f0:=hx3.cell 0;have f1:=hx3.cell 1;have z0:=hx3.frozen 0;have z1:=hx3.frozen 1;have HX3:=hD hx3;clear hb3 hx3)
  go_wp2_with (go_at_call 85;refine(HT.out _).mono ?_;rintro e w4 ⟨rfl,rfl⟩)
  refine zj5 (x:=.bool false) HX3.out (by intro W c0 c1;simp [results,Tryz.results74,go_sem,c0,c1]) ?_
  intro W hW hF
  exact⟨by rw [HX.out];rfl,HB3.out.trans (hF.below HB3.out.size (fun k hk=>by omega))⟩
 | some n=>
 have HF2:Hid (r=if g≤n∧nameOk ta=true then some (ta,n) else none):=HF
 by_cases h0:n<g
 ·have HX:Hid (r=none):=hD (by rw [HF2.out,if_neg (fun e=>by omega)])
  go_enter Tryz.func74,Tryz.ntmps74
  go_upto_region 2 with(go_at_call 104;refine HC2.out.mono ?_;rintro e w2 ⟨rfl,n2,rfl⟩)
  go_upto_region 3 with(go_at_call 105;refine(HN.out _ (HP0.out.drewN n2)).mono ?_;rintro e w3 ⟨rfl,hb3⟩;have HB3:=hD ((zo HB0.out n2).trans (hb3.mono HB0.out.size));have hx3:=(HBX.out.drewN n2).below hb3 HBX.out.lt;have f0:=hx3.cell 0;have f1:=hx3.cell 1;have z0:=hx3.frozen 0;have z1:=hx3.frozen 1;have HX3:=hD hx3;clear hb3 hx3)
  go_wp2_with (go_at_call 85;refine(HT.out _).mono ?_;rintro e w4 ⟨rfl,rfl⟩)
  refine zj5 (x:=.bool false) HX3.out (by intro W c0 c1;simp [results,Tryz.results74,go_sem,c0,c1]) ?_
  intro W hW hF
  exact⟨by rw [HX.out];rfl,HB3.out.trans (hF.below HB3.out.size (fun k hk=>by omega))⟩
 cases hn:nameOk ta with
 | false=>
  have HX:Hid (r=none):=hD (by rw [HF2.out,hn,if_neg (by simp)])
  rw [hn] at HT
  clear hn
  go_enter Tryz.func74,Tryz.ntmps74
  go_upto_region 2 with(go_at_call 104;refine HC2.out.mono ?_;rintro e w2 ⟨rfl,n2,rfl⟩)
  go_upto_region 3 with(go_at_call 105;refine(HN.out _ (HP0.out.drewN n2)).mono ?_;rintro e w3 ⟨rfl,hb3⟩;have HB3:=hD ((zo HB0.out n2).trans (hb3.mono HB0.out.size));have hx3:=(HBX.out.drewN n2).below hb3 HBX.out.lt;have f0:=hx3.cell 0;have f1:=hx3.cell 1;have z0:=hx3.frozen 0;have z1:=hx3.frozen 1;have HX3:=hD hx3;clear hb3 hx3)
  go_wp2_with (go_at_call 85;refine(HT.out _).mono ?_;rintro e w4 ⟨rfl,rfl⟩)
  refine zj5 (x:=.bool false) HX3.out (by intro W c0 c1;simp [results,Tryz.results74,go_sem,c0,c1]) ?_
  intro W hW hF
  exact⟨by rw [HX.out];rfl,HB3.out.trans (hF.below HB3.out.size (fun k hk=>by omega))⟩
 | true=>
  have HX:Hid (r=some (ta,n)):=hD (by rw [HF2.out,hn,if_pos ⟨by omega,rfl⟩])
  rw [hn] at HT
  clear hn
  go_enter Tryz.func74,Tryz.ntmps74
  go_upto_region 2 with(go_at_call 104;refine HC2.out.mono ?_;rintro e w2 ⟨rfl,n2,rfl⟩)
  go_upto_region 3 with(go_at_call 105;refine(HN.out _ (HP0.out.drewN n2)).mono ?_;rintro e w3 ⟨rfl,hb3⟩;have HB3:=hD ((zo HB0.out n2).trans (hb3.mono HB0.out.size));have hx3:=(HBX.out.drewN n2).below hb3 HBX.out.lt;have f0:=hx3.cell 0;have f1:=hx3.cell 1;have z0:=hx3.frozen 0;have z1:=hx3.frozen 1;have HX3:=hD hx3;clear hb3 hx3)
  go_wp2_with (go_at_call 85;refine(HT.out _).mono ?_;rintro e w4 ⟨rfl,rfl⟩)
  refine zj5 (x:=.bool true) HX3.out (by intro W c0 c1;simp [results,Tryz.results74,go_sem,c0,c1]) ?_
  intro W hW hF
  exact⟨by rw [HX.out];rfl,HB3.out.trans (hF.below HB3.out.size (fun k hk=>by omega))⟩
end Go.Proofs.YtlmbiafloiompaaGreatDoor

namespace Go.Proofs.YtlmbiafloiompaaGreatDoor
open Go Go.RowKit Go.WideShapes Go.ChangeShapes Go.Maps
theorem imInt:Tryz.prog.underlying 3=some (.int .i64):=by kernel_rfl
theorem imMap:Tryz.prog.underlying 76=some (.map 3 3):=by kernel_rfl
theorem imZero (w:World):(zeroValue 3).run Tryz.prog w=.ok (.int .i64 0) w:=by kernel_rfl
def IMap (w:World) (M n:Nat) (f:Int→Option Int):Prop:=
 ∃ D:DataW Unit,w.ownsMap Tryz.prog 3 (plainElem Tryz.prog 3) M n D∧IsMap D∧∀ k z,D.atKey (.int .i64 k) z=match f k with | none=>z | some v=>.lit (.int .i64 v)
theorem IMap.lt {w:World} {M n:Nat} {f:Int→Option Int} (h:IMap w M n f):M<w.heap.size:=by
 obtain⟨D,h1,_⟩:=h
 exact h1.lt
theorem IMap.new (w:World):IMap (w.alloc (.map #[] 0)) w.heap.size 0 (fun _=>none):=
 ⟨_,World.ownsMap_made w _ _ _,isMap_empty,fun k z=>rfl⟩
theorem IMap.fr {S:Nat→Prop} {w w':World} {M n:Nat} {f:Int→Option Int} (h:IMap w M n f) (hf:Fr S w w') (hM:¬ S M):IMap w' M n f:=by
 obtain⟨D,⟨es,cl,hm,F1,F2,F3⟩,h2,h3⟩:=h
 exact⟨D,⟨es,cl,(hf.block M (Array.getElem?_eq_some_iff.1 hm).1 hM).trans hm,F1,F2,F3⟩,h2,h3⟩
theorem IMap.below {w w':World} {M n:Nat} {f:Int→Option Int} (h:IMap w M n f) (hb:Below w.heap.size w w'):IMap w' M n f:=h.fr (S:=fun _=>False) (Fr.of_below hb) (fun x=>x)
theorem IMap.ne_box {w:World} {M n:Nat} {f:Int→Option Int} (h:IMap w M n f) {g:Nat} {t:TypeId} {cs:Array Value} (hb:Box w g t cs):M≠g:=by
 rintro rfl
 obtain⟨D,⟨es,cl,hm,_⟩,_⟩:=h
 unfold Box at hb
 rw [hb] at hm
 simp at hm
theorem IMap.ne_own {w:World} {M n:Nat} {f:Int→Option Int} (h:IMap w M n f) {base:Nat} {e:TypeId} {size m:Nat} {v:Value} {xs:List Value} (ho:w.ownsRow base e size v m xs):∀ k,v.ownBlock=some k→k≠M:=by
 rintro k hk rfl
 obtain⟨D,⟨es,cl,hm,_⟩,_⟩:=h
 rcases ho.2 with⟨rfl,_⟩ | ⟨g,cap,cur,rfl,_,hh,_⟩
 ·simp [Value.ownBlock] at hk
 ·have:g=k:=by simpa [Value.ownBlock] using hk
  subst this
  rw [hh] at hm
  simp at hm
theorem IMap.look2 {w:World} {M n:Nat} {f:Int→Option Int} (h:IMap w M n f) (k:Int) (hk:(Lit.int .i64 k).wf=true) :
  (Instr.lookup 76 (.map (some M)) (.int .i64 k) true).run Tryz.prog w=.ok (.tuple #[.int .i64 ((f k).getD 0),.bool (f k).isSome]) w:=by
 obtain⟨D,⟨es,cl,hm,F,_,rfl⟩,_,h3⟩:=h
 rcases Maps.fit_look true (int_keyed imInt) imMap (imZero w) hm F (keyOf_int_mk imInt hk) with⟨hrun,_,hat⟩ | ⟨e0,y,_,_,hrun,hR,hat,_⟩
 ·have hf:f k=none:=by
   cases hf:f k with
   | none=>rfl
   | some v=>
    have:=(hat .nil).symm.trans (h3 k .nil)
    rw [hf] at this
    cases this
  rw [hrun,hf]
  rfl
 ·have hy:=plainElem_int_inv imInt hR
  obtain⟨a,ha,rfl,_⟩:=hy
  have hf:f k=some a:=by
   have h1:=(hat .nil).symm.trans (h3 k .nil)
   cases hf:f k with
   | none=>rw [hf] at h1;cases h1
   | some v=>
    rw [hf] at h1
    have h2:a=v:=by simpa using h1
    rw [h2]
  rw [hrun,ha,hf]
  rfl
theorem IMap.look {w:World} {M n:Nat} {f:Int→Option Int} (h:IMap w M n f) (k:Int) (hk:(Lit.int .i64 k).wf=true) :
  (Instr.lookup 76 (.map (some M)) (.int .i64 k) false).run Tryz.prog w=.ok (.int .i64 ((f k).getD 0)) w:=by
 obtain⟨D,⟨es,cl,hm,F,_,rfl⟩,_,h3⟩:=h
 rcases Maps.fit_look false (int_keyed imInt) imMap (imZero w) hm F (keyOf_int_mk imInt hk) with⟨hrun,_,hat⟩ | ⟨e0,y,_,_,hrun,hR,hat,_⟩
 ·have hf:f k=none:=by
   cases hf:f k with
   | none=>rfl
   | some v=>
    have:=(hat .nil).symm.trans (h3 k .nil)
    rw [hf] at this
    cases this
  rw [hrun,hf]
  rfl
 ·have hy:=plainElem_int_inv imInt hR
  obtain⟨a,ha,rfl,_⟩:=hy
  have hf:f k=some a:=by
   have h1:=(hat .nil).symm.trans (h3 k .nil)
   cases hf:f k with
   | none=>rw [hf] at h1;cases h1
   | some v=>
    rw [hf] at h1
    have h2:a=v:=by simpa using h1
    rw [h2]
  rw [hrun,ha,hf]
  rfl
theorem IMap.store {w:World} {M n:Nat} {f:Int→Option Int} (h:IMap w M n f) (k v:Int) (hk:(Lit.int .i64 k).wf=true) (hv:(Lit.int .i64 v).wf=true) (hn:n<maxLen) :
  ∃ w',(Instr.mapUpdate 76 (.map (some M)) (.int .i64 k) (.int .i64 v)).run Tryz.prog w=.ok () w'∧IMap w' M (n+1) (fun j=>if j=k then some v else f j)∧Fr (fun b=>b=M) w w':=by
 obtain⟨D,h1,h2,h3⟩:=h
 obtain⟨w',hrun,r1,r2⟩:=h1.update (int_keyed imInt) imMap hn (keyOf_int_mk imInt hk) (plainElem_int imInt hv)
 refine⟨w',hrun,⟨_,r1,h2.put _ _,fun j z=>?_⟩,Fr.of_grown r2 (fun _ _ e=>(Option.some.inj e).symm)⟩
 by_cases hj:j=k
 ·subst hj
  rw [atKey_put_same h2 (show WideAt.IsKeyLit (Lit.int .i64 j) from trivial)]
  simp
 ·rw [atKey_put_other (by intro e;injection e with _ e;exact hj e),h3 j z]
  simp [hj]
theorem wfI {k:Int} (h0:-9223372036854775808≤k) (h1:k≤9223372036854775807):(Lit.int .i64 k).wf=true:=by
 simp [Lit.wf,IntKind.min,IntKind.max,IntKind.signed,IntKind.bits]
 omega
end Go.Proofs.YtlmbiafloiompaaGreatDoor

namespace Go.Proofs.YtlmbiafloiompaaGreatDoor
open Go Go.RowKit Go.WideShapes Go.ChangeShapes
def ptC (p:Int × Int × Bool):List Value:=[.int .i64 p.1,.int .i64 p.2.1,.bool p.2.2]
theorem slPt:SlT 77 82 3 24:=⟨Tryz.underlying77,⟨.agg #[.int .i64 0,.int .i64 0,.bool false],by kernel_rfl,rfl⟩,by decide,by decide⟩
structure Mk (w wr:World) (g M:Nat) (va vf vp vc vq:Value) (s:St):Prop where
 box:Box wr g 79 #[va,vf,vp,vc,.map (some M),vq]
 ra:wr.ownsRow w.heap.size 9 1 va s.ob.atoms.length (s.ob.atoms.map Value.string)
 rf:wr.ownsRow w.heap.size 61 2 vf s.ob.funs.length (s.ob.funs.flatMap funC)
 rp:wr.ownsRow w.heap.size 64 3 vp s.ob.preds.length (s.ob.preds.flatMap predC)
 rc:wr.ownsRow w.heap.size 65 5 vc s.ob.code.length (s.ob.code.flatMap insC)
 rq:wr.ownsRow w.heap.size 82 3 vq s.pts.length (s.pts.flatMap ptC)
 rm:IMap wr M s.labs.length (labOf s.labs)
 below:Below w.heap.size w wr
 lt:w.heap.size≤g∧w.heap.size≤M
section
variable {w wr w' w6:World} {g M:Nat} {va vf vp vc vq v6:Value} {s:St} {S:Nat→Prop}
theorem Mk.fr (h:Mk w wr g M va vf vp vc vq s) (hfr:Fr S wr w') (hg:¬ S g) (hM:¬ S M) (ha:∀ k,va.ownBlock=some k→¬ S k) (hf:∀ k,vf.ownBlock=some k→¬ S k) (hp:∀ k,vp.ownBlock=some k→¬ S k) (hc:∀ k,vc.ownBlock=some k→¬ S k) (hq:∀ k,vq.ownBlock=some k→¬ S k) (hb:Below w.heap.size w w'):Mk w w' g M va vf vp vc vq s:=
 ⟨h.box.fr hfr hg,own_fr h.ra hfr ha,own_fr h.rf hfr hf,own_fr h.rp hfr hp,own_fr h.rc hfr hc,own_fr h.rq hfr hq,h.rm.fr hfr hM,hb,h.lt⟩
theorem Mk.up (h:Mk w wr g M va vf vp vc vq s) (hb:Below wr.heap.size wr w'):Mk w w' g M va vf vp vc vq s:=
 h.fr (S:=fun _=>False) (Fr.of_below hb) (fun x=>x) (fun x=>x) (fun _ _ x=>x) (fun _ _ x=>x) (fun _ _ x=>x) (fun _ _ x=>x) (fun _ _ x=>x) (h.below.trans (hb.mono h.below.size))
theorem Mk.drewN (h:Mk w wr g M va vf vp vc vq s) (n:Nat):Mk w (wr.drewN n) g M va vf vp vc vq s:=h.up (⟨rfl,rfl,rfl,Nat.le_refl _,fun _ _=>rfl⟩)
theorem Mk.alloc (h:Mk w wr g M va vf vp vc vq s) (o:Obj):Mk w (wr.alloc o) g M va vf vp vc vq s:=h.up (za wr o)
theorem Mk.puta {x:ByteArray} (h:Mk w wr g M va vf vp vc vq s) (ha:App wr w6 w.heap.size 9 1 va v6 (s.ob.atoms.length+1) ((s.ob.atoms.map Value.string) ++ [.string x])) :
  Mk w (w6.setCell ⟨g,0,none⟩ v6) g M v6 vf vp vc vq { s with ob:={ s.ob with atoms:=s.ob.atoms ++ [x] } }∧w6.cell? ⟨g,0,none⟩=some va∧w6.frozen? ⟨g,0,none⟩=false:=by
 have hbx:=h.box.fr ha.fr (fun e=>zb h.ra h.box (by decide) _ e rfl)
 refine⟨⟨?_,(by have h2:=zd ha.own (p:=⟨g,0,none⟩) (fun k hk=>zb ha.own hbx (by decide) k hk) v6;simpa [funC,predC,insC,ptC] using h2),zd (own_fr h.rf ha.fr (fun k hk e=>zc h.rf h.ra (by decide) k hk e)) (p:=⟨g,0,none⟩) (fun k hk=>zb (own_fr h.rf ha.fr (fun k hk e=>zc h.rf h.ra (by decide) k hk e)) hbx (by decide) k hk) v6,zd (own_fr h.rp ha.fr (fun k hk e=>zc h.rp h.ra (by decide) k hk e)) (p:=⟨g,0,none⟩) (fun k hk=>zb (own_fr h.rp ha.fr (fun k hk e=>zc h.rp h.ra (by decide) k hk e)) hbx (by decide) k hk) v6,zd (own_fr h.rc ha.fr (fun k hk e=>zc h.rc h.ra (by decide) k hk e)) (p:=⟨g,0,none⟩) (fun k hk=>zb (own_fr h.rc ha.fr (fun k hk e=>zc h.rc h.ra (by decide) k hk e)) hbx (by decide) k hk) v6,zd (own_fr h.rq ha.fr (fun k hk e=>zc h.rq h.ra (by decide) k hk e)) (p:=⟨g,0,none⟩) (fun k hk=>zb (own_fr h.rq ha.fr (fun k hk e=>zc h.rq h.ra (by decide) k hk e)) hbx (by decide) k hk) v6,(h.rm.fr ha.fr (fun e=>h.rm.ne_own h.ra _ e rfl)).fr (S:=fun k=>k=g) ((Fr.refl (fun k=>k=g) w6).setCell (p:=⟨g,0,none⟩) (.inl rfl) v6) (fun e=>h.rm.ne_box h.box e),(h.below.trans (ha.fr.below h.below.size (fun k hk=>(own_ge h.ra hk).1))).setCell (p:=⟨g,0,none⟩) h.lt.1 _,h.lt⟩,hbx.cell 0,hbx.frozen 0⟩
 have:=hbx.set_ 0 v6
 simpa using this
theorem Mk.putf {x:ByteArray} {n:Int} (h:Mk w wr g M va vf vp vc vq s) (ha:App wr w6 w.heap.size 61 2 vf v6 (s.ob.funs.length+1) ((s.ob.funs.flatMap funC) ++ [.string x,.int .i64 n])) :
  Mk w (w6.setCell ⟨g,1,none⟩ v6) g M va v6 vp vc vq { s with ob:={ s.ob with funs:=s.ob.funs ++ [(x,n)] } }∧w6.cell? ⟨g,1,none⟩=some vf∧w6.frozen? ⟨g,1,none⟩=false:=by
 have hbx:=h.box.fr ha.fr (fun e=>zb h.rf h.box (by decide) _ e rfl)
 refine⟨⟨?_,zd (own_fr h.ra ha.fr (fun k hk e=>zc h.ra h.rf (by decide) k hk e)) (p:=⟨g,1,none⟩) (fun k hk=>zb (own_fr h.ra ha.fr (fun k hk e=>zc h.ra h.rf (by decide) k hk e)) hbx (by decide) k hk) v6,(by have h2:=zd ha.own (p:=⟨g,1,none⟩) (fun k hk=>zb ha.own hbx (by decide) k hk) v6;simpa [funC,predC,insC,ptC] using h2),zd (own_fr h.rp ha.fr (fun k hk e=>zc h.rp h.rf (by decide) k hk e)) (p:=⟨g,1,none⟩) (fun k hk=>zb (own_fr h.rp ha.fr (fun k hk e=>zc h.rp h.rf (by decide) k hk e)) hbx (by decide) k hk) v6,zd (own_fr h.rc ha.fr (fun k hk e=>zc h.rc h.rf (by decide) k hk e)) (p:=⟨g,1,none⟩) (fun k hk=>zb (own_fr h.rc ha.fr (fun k hk e=>zc h.rc h.rf (by decide) k hk e)) hbx (by decide) k hk) v6,zd (own_fr h.rq ha.fr (fun k hk e=>zc h.rq h.rf (by decide) k hk e)) (p:=⟨g,1,none⟩) (fun k hk=>zb (own_fr h.rq ha.fr (fun k hk e=>zc h.rq h.rf (by decide) k hk e)) hbx (by decide) k hk) v6,(h.rm.fr ha.fr (fun e=>h.rm.ne_own h.rf _ e rfl)).fr (S:=fun k=>k=g) ((Fr.refl (fun k=>k=g) w6).setCell (p:=⟨g,1,none⟩) (.inl rfl) v6) (fun e=>h.rm.ne_box h.box e),(h.below.trans (ha.fr.below h.below.size (fun k hk=>(own_ge h.rf hk).1))).setCell (p:=⟨g,1,none⟩) h.lt.1 _,h.lt⟩,hbx.cell 1,hbx.frozen 1⟩
 have:=hbx.set_ 1 v6
 simpa using this
theorem Mk.putp {x:ByteArray} {n m:Int} (h:Mk w wr g M va vf vp vc vq s) (ha:App wr w6 w.heap.size 64 3 vp v6 (s.ob.preds.length+1) ((s.ob.preds.flatMap predC) ++ [.string x,.int .i64 n,.int .i64 m])) :
  Mk w (w6.setCell ⟨g,2,none⟩ v6) g M va vf v6 vc vq { s with ob:={ s.ob with preds:=s.ob.preds ++ [(x,n,m)] } }∧w6.cell? ⟨g,2,none⟩=some vp∧w6.frozen? ⟨g,2,none⟩=false:=by
 have hbx:=h.box.fr ha.fr (fun e=>zb h.rp h.box (by decide) _ e rfl)
 refine⟨⟨?_,zd (own_fr h.ra ha.fr (fun k hk e=>zc h.ra h.rp (by decide) k hk e)) (p:=⟨g,2,none⟩) (fun k hk=>zb (own_fr h.ra ha.fr (fun k hk e=>zc h.ra h.rp (by decide) k hk e)) hbx (by decide) k hk) v6,zd (own_fr h.rf ha.fr (fun k hk e=>zc h.rf h.rp (by decide) k hk e)) (p:=⟨g,2,none⟩) (fun k hk=>zb (own_fr h.rf ha.fr (fun k hk e=>zc h.rf h.rp (by decide) k hk e)) hbx (by decide) k hk) v6,(by have h2:=zd ha.own (p:=⟨g,2,none⟩) (fun k hk=>zb ha.own hbx (by decide) k hk) v6;simpa [funC,predC,insC,ptC] using h2),zd (own_fr h.rc ha.fr (fun k hk e=>zc h.rc h.rp (by decide) k hk e)) (p:=⟨g,2,none⟩) (fun k hk=>zb (own_fr h.rc ha.fr (fun k hk e=>zc h.rc h.rp (by decide) k hk e)) hbx (by decide) k hk) v6,zd (own_fr h.rq ha.fr (fun k hk e=>zc h.rq h.rp (by decide) k hk e)) (p:=⟨g,2,none⟩) (fun k hk=>zb (own_fr h.rq ha.fr (fun k hk e=>zc h.rq h.rp (by decide) k hk e)) hbx (by decide) k hk) v6,(h.rm.fr ha.fr (fun e=>h.rm.ne_own h.rp _ e rfl)).fr (S:=fun k=>k=g) ((Fr.refl (fun k=>k=g) w6).setCell (p:=⟨g,2,none⟩) (.inl rfl) v6) (fun e=>h.rm.ne_box h.box e),(h.below.trans (ha.fr.below h.below.size (fun k hk=>(own_ge h.rp hk).1))).setCell (p:=⟨g,2,none⟩) h.lt.1 _,h.lt⟩,hbx.cell 2,hbx.frozen 2⟩
 have:=hbx.set_ 2 v6
 simpa using this
theorem Mk.putc {i0 i1 i2 i3 i4:Int} (h:Mk w wr g M va vf vp vc vq s) (ha:App wr w6 w.heap.size 65 5 vc v6 (s.ob.code.length+1) ((s.ob.code.flatMap insC) ++ [.int .i64 i0,.int .i64 i1,.int .i64 i2,.int .i64 i3,.int .i64 i4])) :
  Mk w (w6.setCell ⟨g,3,none⟩ v6) g M va vf vp v6 vq { s with ob:={ s.ob with code:=s.ob.code ++ [(i0,i1,i2,i3,i4)] } }∧w6.cell? ⟨g,3,none⟩=some vc∧w6.frozen? ⟨g,3,none⟩=false:=by
 have hbx:=h.box.fr ha.fr (fun e=>zb h.rc h.box (by decide) _ e rfl)
 refine⟨⟨?_,zd (own_fr h.ra ha.fr (fun k hk e=>zc h.ra h.rc (by decide) k hk e)) (p:=⟨g,3,none⟩) (fun k hk=>zb (own_fr h.ra ha.fr (fun k hk e=>zc h.ra h.rc (by decide) k hk e)) hbx (by decide) k hk) v6,zd (own_fr h.rf ha.fr (fun k hk e=>zc h.rf h.rc (by decide) k hk e)) (p:=⟨g,3,none⟩) (fun k hk=>zb (own_fr h.rf ha.fr (fun k hk e=>zc h.rf h.rc (by decide) k hk e)) hbx (by decide) k hk) v6,zd (own_fr h.rp ha.fr (fun k hk e=>zc h.rp h.rc (by decide) k hk e)) (p:=⟨g,3,none⟩) (fun k hk=>zb (own_fr h.rp ha.fr (fun k hk e=>zc h.rp h.rc (by decide) k hk e)) hbx (by decide) k hk) v6,(by have h2:=zd ha.own (p:=⟨g,3,none⟩) (fun k hk=>zb ha.own hbx (by decide) k hk) v6;simpa [funC,predC,insC,ptC] using h2),zd (own_fr h.rq ha.fr (fun k hk e=>zc h.rq h.rc (by decide) k hk e)) (p:=⟨g,3,none⟩) (fun k hk=>zb (own_fr h.rq ha.fr (fun k hk e=>zc h.rq h.rc (by decide) k hk e)) hbx (by decide) k hk) v6,(h.rm.fr ha.fr (fun e=>h.rm.ne_own h.rc _ e rfl)).fr (S:=fun k=>k=g) ((Fr.refl (fun k=>k=g) w6).setCell (p:=⟨g,3,none⟩) (.inl rfl) v6) (fun e=>h.rm.ne_box h.box e),(h.below.trans (ha.fr.below h.below.size (fun k hk=>(own_ge h.rc hk).1))).setCell (p:=⟨g,3,none⟩) h.lt.1 _,h.lt⟩,hbx.cell 3,hbx.frozen 3⟩
 have:=hbx.set_ 3 v6
 simpa using this
theorem Mk.putq {l n:Int} {b:Bool} (h:Mk w wr g M va vf vp vc vq s) (ha:App wr w6 w.heap.size 82 3 vq v6 (s.pts.length+1) ((s.pts.flatMap ptC) ++ [.int .i64 l,.int .i64 n,.bool b])) :
  Mk w (w6.setCell ⟨g,5,none⟩ v6) g M va vf vp vc v6 { s with pts:=s.pts ++ [(l,n,b)] }∧w6.cell? ⟨g,5,none⟩=some vq∧w6.frozen? ⟨g,5,none⟩=false:=by
 have hbx:=h.box.fr ha.fr (fun e=>zb h.rq h.box (by decide) _ e rfl)
 refine⟨⟨?_,zd (own_fr h.ra ha.fr (fun k hk e=>zc h.ra h.rq (by decide) k hk e)) (p:=⟨g,5,none⟩) (fun k hk=>zb (own_fr h.ra ha.fr (fun k hk e=>zc h.ra h.rq (by decide) k hk e)) hbx (by decide) k hk) v6,zd (own_fr h.rf ha.fr (fun k hk e=>zc h.rf h.rq (by decide) k hk e)) (p:=⟨g,5,none⟩) (fun k hk=>zb (own_fr h.rf ha.fr (fun k hk e=>zc h.rf h.rq (by decide) k hk e)) hbx (by decide) k hk) v6,zd (own_fr h.rp ha.fr (fun k hk e=>zc h.rp h.rq (by decide) k hk e)) (p:=⟨g,5,none⟩) (fun k hk=>zb (own_fr h.rp ha.fr (fun k hk e=>zc h.rp h.rq (by decide) k hk e)) hbx (by decide) k hk) v6,zd (own_fr h.rc ha.fr (fun k hk e=>zc h.rc h.rq (by decide) k hk e)) (p:=⟨g,5,none⟩) (fun k hk=>zb (own_fr h.rc ha.fr (fun k hk e=>zc h.rc h.rq (by decide) k hk e)) hbx (by decide) k hk) v6,(by have h2:=zd ha.own (p:=⟨g,5,none⟩) (fun k hk=>zb ha.own hbx (by decide) k hk) v6;simpa [funC,predC,insC,ptC] using h2),(h.rm.fr ha.fr (fun e=>h.rm.ne_own h.rq _ e rfl)).fr (S:=fun k=>k=g) ((Fr.refl (fun k=>k=g) w6).setCell (p:=⟨g,5,none⟩) (.inl rfl) v6) (fun e=>h.rm.ne_box h.box e),(h.below.trans (ha.fr.below h.below.size (fun k hk=>(own_ge h.rq hk).1))).setCell (p:=⟨g,5,none⟩) h.lt.1 _,h.lt⟩,hbx.cell 5,hbx.frozen 5⟩
 have:=hbx.set_ 5 v6
 simpa using this
def OwnK (va vf vp vc vq:Value) (k:Nat):Prop:=va.ownBlock=some k ∨ vf.ownBlock=some k ∨ vp.ownBlock=some k ∨ vc.ownBlock=some k ∨ vq.ownBlock=some k
structure MkF (w w':World) (g M:Nat) (va vf vp vc vq ua uf up uc uq:Value):Prop where
 fr:Fr (fun k=>k=g ∨ k=M ∨ OwnK va vf vp vc vq k) w w'
 own:∀ k,OwnK ua uf up uc uq k→OwnK va vf vp vc vq k ∨ w.heap.size≤k
theorem MkF.below {w w':World} {g M:Nat} {va vf vp vc vq:Value} (hb:Below w.heap.size w w'):MkF w w' g M va vf vp vc vq va vf vp vc vq:=
 ⟨(Fr.of_below (S:=fun _=>False) hb).mono (fun _ _ x=>False.elim x),fun _ h=>.inl h⟩
theorem MkF.trans {w w' w'':World} {g M:Nat} {va vf vp vc vq ua uf up uc uq ya yf yp yc yq:Value} (h:MkF w w' g M va vf vp vc vq ua uf up uc uq) (k:MkF w' w'' g M ua uf up uc uq ya yf yp yc yq):MkF w w'' g M va vf vp vc vq ya yf yp yc yq:=by
 refine⟨⟨k.fr.os.trans h.fr.os,k.fr.tape.trans h.fr.tape,k.fr.output.trans h.fr.output,Nat.le_trans h.fr.size k.fr.size,fun j hj hs=>(k.fr.block j (Nat.lt_of_lt_of_le hj h.fr.size) (fun e=>?_)).trans (h.fr.block j hj hs)⟩,fun j hj=>?_⟩
 ·rcases e with e | e | e
  ·exact hs (.inl e)
  ·exact hs (.inr (.inl e))
  ·rcases h.own j e with e | e
   ·exact hs (.inr (.inr e))
   ·omega
 ·rcases k.own j hj with e | e
  ·exact h.own j e
  ·exact .inr (Nat.le_trans h.fr.size e)
theorem MkF.keep {w w':World} {g M:Nat} {va vf vp vc vq ua uf up uc uq:Value} (h:MkF w w' g M va vf vp vc vq ua uf up uc uq) {b:Nat} {t:TypeId} {cs:Array Value} (hb:Box w b t cs) (hg:b≠g) (hM:b≠M) (hn:¬ OwnK va vf vp vc vq b):Box w' b t cs∧¬ OwnK ua uf up uc uq b:=by
 refine⟨hb.fr h.fr (by
  rintro(e | e | e)
  ·exact hg e
  ·exact hM e
  ·exact hn e),fun e=>?_⟩
 rcases h.own b e with e | e
 ·exact hn e
 ·have:=hb.lt
  omega
theorem MkF.puta {w w6:World} {base:Nat} {e0:TypeId} {size m:Nat} {xs:List Value} {g M:Nat} {va vf vp vc vq v6:Value} (ha:App w w6 base e0 size va v6 m xs):MkF w (w6.setCell ⟨g,0,none⟩ v6) g M va vf vp vc vq v6 vf vp vc vq:=by
 refine⟨(ha.fr.mono (fun k _ e=>.inr (.inr (.inl e)))).setCell (p:=⟨g,0,none⟩) (.inl (.inl rfl)) _,fun k hk=>?_⟩
 rcases hk with e | e | e | e | e
 ·rcases ha.at_ with h | ⟨b,h,hb⟩
  ·rw [h] at e
   exact .inl (.inl e)
  ·rw [h] at e
   injection e with e
   exact .inr (e ▸ hb)
 ·exact .inl (.inr (.inl e))
 ·exact .inl (.inr (.inr (.inl e)))
 ·exact .inl (.inr (.inr (.inr (.inl e))))
 ·exact .inl (.inr (.inr (.inr (.inr e))))
theorem MkF.putf {w w6:World} {base:Nat} {e0:TypeId} {size m:Nat} {xs:List Value} {g M:Nat} {va vf vp vc vq v6:Value} (ha:App w w6 base e0 size vf v6 m xs):MkF w (w6.setCell ⟨g,1,none⟩ v6) g M va vf vp vc vq va v6 vp vc vq:=by
 refine⟨(ha.fr.mono (fun k _ e=>.inr (.inr (.inr (.inl e))))).setCell (p:=⟨g,1,none⟩) (.inl (.inl rfl)) _,fun k hk=>?_⟩
 rcases hk with e | e | e | e | e
 ·exact .inl (.inl e)
 ·rcases ha.at_ with h | ⟨b,h,hb⟩
  ·rw [h] at e
   exact .inl (.inr (.inl e))
  ·rw [h] at e
   injection e with e
   exact .inr (e ▸ hb)
 ·exact .inl (.inr (.inr (.inl e)))
 ·exact .inl (.inr (.inr (.inr (.inl e))))
 ·exact .inl (.inr (.inr (.inr (.inr e))))
theorem MkF.putp {w w6:World} {base:Nat} {e0:TypeId} {size m:Nat} {xs:List Value} {g M:Nat} {va vf vp vc vq v6:Value} (ha:App w w6 base e0 size vp v6 m xs):MkF w (w6.setCell ⟨g,2,none⟩ v6) g M va vf vp vc vq va vf v6 vc vq:=by
 refine⟨(ha.fr.mono (fun k _ e=>.inr (.inr (.inr (.inr (.inl e)))))).setCell (p:=⟨g,2,none⟩) (.inl (.inl rfl)) _,fun k hk=>?_⟩
 rcases hk with e | e | e | e | e
 ·exact .inl (.inl e)
 ·exact .inl (.inr (.inl e))
 ·rcases ha.at_ with h | ⟨b,h,hb⟩
  ·rw [h] at e
   exact .inl (.inr (.inr (.inl e)))
  ·rw [h] at e
   injection e with e
   exact .inr (e ▸ hb)
 ·exact .inl (.inr (.inr (.inr (.inl e))))
 ·exact .inl (.inr (.inr (.inr (.inr e))))
theorem MkF.putc {w w6:World} {base:Nat} {e0:TypeId} {size m:Nat} {xs:List Value} {g M:Nat} {va vf vp vc vq v6:Value} (ha:App w w6 base e0 size vc v6 m xs):MkF w (w6.setCell ⟨g,3,none⟩ v6) g M va vf vp vc vq va vf vp v6 vq:=by
 refine⟨(ha.fr.mono (fun k _ e=>.inr (.inr (.inr (.inr (.inr (.inl e))))))).setCell (p:=⟨g,3,none⟩) (.inl (.inl rfl)) _,fun k hk=>?_⟩
 rcases hk with e | e | e | e | e
 ·exact .inl (.inl e)
 ·exact .inl (.inr (.inl e))
 ·exact .inl (.inr (.inr (.inl e)))
 ·rcases ha.at_ with h | ⟨b,h,hb⟩
  ·rw [h] at e
   exact .inl (.inr (.inr (.inr (.inl e))))
  ·rw [h] at e
   injection e with e
   exact .inr (e ▸ hb)
 ·exact .inl (.inr (.inr (.inr (.inr e))))
theorem MkF.putq {w w6:World} {base:Nat} {e0:TypeId} {size m:Nat} {xs:List Value} {g M:Nat} {va vf vp vc vq v6:Value} (ha:App w w6 base e0 size vq v6 m xs):MkF w (w6.setCell ⟨g,5,none⟩ v6) g M va vf vp vc vq va vf vp vc v6:=by
 refine⟨(ha.fr.mono (fun k _ e=>.inr (.inr (.inr (.inr (.inr (.inr e))))))).setCell (p:=⟨g,5,none⟩) (.inl (.inl rfl)) _,fun k hk=>?_⟩
 rcases hk with e | e | e | e | e
 ·exact .inl (.inl e)
 ·exact .inl (.inr (.inl e))
 ·exact .inl (.inr (.inr (.inl e)))
 ·exact .inl (.inr (.inr (.inr (.inl e))))
 ·rcases ha.at_ with h | ⟨b,h,hb⟩
  ·rw [h] at e
   exact .inl (.inr (.inr (.inr (.inr e))))
  ·rw [h] at e
   injection e with e
   exact .inr (e ▸ hb)
theorem zc20 (labs:List (Int × Int)) (k v:Int) (h:labOf labs k=none):labOf (labs ++ [(k,v)])=fun j=>if j=k then some v else labOf labs j:=by
 funext j
 unfold labOf at h ⊢
 rw [List.find?_append]
 by_cases hj:j=k
 ·subst hj
  have h1:labs.find? (fun p=>p.1 == j)=none:=by simpa using h
  rw [h1,if_pos rfl]
  simp
 ·rw [if_neg hj]
  have:([(k,v)]:List (Int × Int)).find? (fun p=>p.1 == j)=none:=by simp;exact fun e=>hj e.symm
  rw [this,Option.or_none]
theorem Mk.lab (h:Mk w wr g M va vf vp vc vq s) (k v:Int) (hk:(Lit.int .i64 k).wf=true) (hv:(Lit.int .i64 v).wf=true) (hn:s.labs.length<maxLen) (h0:labOf s.labs k=none) :
  ∃ w',(Instr.mapUpdate 76 (.map (some M)) (.int .i64 k) (.int .i64 v)).run Tryz.prog wr=.ok () w'∧Hid (Mk w w' g M va vf vp vc vq { s with labs:=s.labs ++ [(k,v)] }):=by
 obtain⟨w',hr,hm,hf⟩:=h.rm.store k v hk hv hn
 refine⟨w',hr,hD ?_⟩
 have hb:Below w.heap.size w w':=h.below.trans (hf.below h.below.size (fun k hk=>by subst hk;exact h.lt.2))
 refine⟨h.box.fr hf (fun e=>h.rm.ne_box h.box e.symm),own_fr h.ra hf (fun k hk e=>h.rm.ne_own h.ra k hk e),own_fr h.rf hf (fun k hk e=>h.rm.ne_own h.rf k hk e),own_fr h.rp hf (fun k hk e=>h.rm.ne_own h.rp k hk e),own_fr h.rc hf (fun k hk e=>h.rm.ne_own h.rc k hk e),own_fr h.rq hf (fun k hk e=>h.rm.ne_own h.rq k hk e),?_,hb,h.lt⟩
 show IMap w' M (s.labs ++ [(k,v)]).length (labOf (s.labs ++ [(k,v)]))
 rw [zc20 _ _ _ h0,List.length_append]
 exact hm
theorem Mk.at_ (h:Mk w wr g M va vf vp vc vq s):ObAt wr va vf vp vc s.ob:=
 ⟨CellsAt.of_own h.ra (by decide),CellsAt.of_own h.rf (by decide),CellsAt.of_own h.rp (by decide),CellsAt.of_own h.rc (by decide)⟩
theorem Mk.cells (h:Mk w wr g M va vf vp vc vq s):wr.cell? ⟨g,0,none⟩=some va∧wr.cell? ⟨g,1,none⟩=some vf∧wr.cell? ⟨g,2,none⟩=some vp∧wr.cell? ⟨g,3,none⟩=some vc∧wr.cell? ⟨g,4,none⟩=some (.map (some M))∧wr.cell? ⟨g,5,none⟩=some vq:=
 ⟨h.box.cell 0,h.box.cell 1,h.box.cell 2,h.box.cell 3,h.box.cell 4,h.box.cell 5⟩
theorem Mk.start (w:World) (w1:World) (hb:Below w.heap.size w w1):Mk w ((w1.alloc (.map #[] 0)).alloc (.cells #[.slice none 0 0,.slice none 0 0,.slice none 0 0,.slice none 0 0,.map (some w1.heap.size),.slice none 0 0] 79)) (w1.heap.size+1) w1.heap.size (.slice none 0 0) (.slice none 0 0) (.slice none 0 0) (.slice none 0 0) (.slice none 0 0) startSt:=by
 have h1:=Box.new (w1.alloc (.map #[] 0)) 79 #[.slice none 0 0,.slice none 0 0,.slice none 0 0,.slice none 0 0,.map (some w1.heap.size),.slice none 0 0]
 rw [World.size_alloc] at h1
 refine⟨h1,⟨rfl,.inl ⟨rfl,rfl⟩⟩,⟨rfl,.inl ⟨rfl,rfl⟩⟩,⟨rfl,.inl ⟨rfl,rfl⟩⟩,⟨rfl,.inl ⟨rfl,rfl⟩⟩,⟨rfl,.inl ⟨rfl,rfl⟩⟩,?_,(hb.alloc hb.size _).alloc (by have:=hb.size;simp;omega) _,by have:=hb.size;omega,hb.size⟩
 exact(IMap.new w1).below (za _ _)
end
theorem zf15 {α:Type} [DecidableEq α]:∀ (l:List α) (x:α) (k:Nat) (hk:k<l.length),(∀ j (hj:j<l.length),j<k→l[j]≠x)→l[k]=x→placeOf l x=k∧x ∈ l
 | [],x,k,hk,_,_=>by simp at hk
 | y :: l,x,0,hk,_,hx=>by
  simp only [List.getElem_cons_zero] at hx
  subst hx
  exact⟨by simp [placeOf,List.findIdx_cons],by simp⟩
 | y :: l,x,k+1,hk,h,hx=>by
  have hy:y≠x:=h 0 (by simp) (by omega)
  obtain⟨h1,h2⟩:=zf15 l x k (by simpa using hk) (fun j hj hjk=>by
   have:=h (j+1) (by simpa using hj) (by omega)
   simpa using this) (by simpa using hx)
  refine⟨?_,List.mem_cons_of_mem _ h2⟩
  unfold placeOf at h1 ⊢
  rw [List.findIdx_cons,decide_eq_false hy,h1]
  rfl
theorem zs7 {α:Type} [DecidableEq α] (l:List α) (x:α) (h:x ∉ l):placeOf l x=l.length:=by
 unfold placeOf
 rw [List.findIdx_eq_length]
 intro y hy
 simp only [decide_eq_false_iff_not]
 rintro rfl
 exact h hy
theorem ze9 {α:Type} [DecidableEq α] {l:List α} {x:α} (h:x ∈ l):addTo l x=l:=if_pos h
theorem zr12 {α:Type} [DecidableEq α] {l:List α} {x:α} (h:x ∉ l):addTo l x=l ++ [x]:=if_neg h
def idxI {α:Type} [DecidableEq α] (l:List α) (x:α):Int:=if x ∈ l then(placeOf l x:Int) else -1
theorem zf18 {α:Type} [DecidableEq α] {l:List α} {x:α} {k:Nat} (hk:k<l.length) (h:∀ j (hj:j<l.length),j<k→l[j]≠x) (hx:l[k]=x):idxI l x=(k:Int):=by
 obtain⟨h1,h2⟩:=zf15 l x k hk h hx
 rw [idxI,if_pos h2,h1]
theorem zo14 {α:Type} [DecidableEq α] {l:List α} {x:α} (h:∀ j (hj:j<l.length),l[j]≠x):idxI l x = -1:=by
 rw [idxI,if_neg]
 intro hm
 obtain⟨j,hj,he⟩:=List.getElem_of_mem hm
 exact h j hj he
set_option maxHeartbeats 2000000 in
theorem zq14 (l:List ByteArray) (hm:l.length≤1000000) (v:Value) (x:ByteArray) (w:World) (hv:AtomsAt w v l) :
  Calls Tryz.prog 139 #[v,.string x] w fun e w'=>e=.returned (.int .i64 (idxI l x))∧w=w':=by
 obtain⟨A,c,rfl⟩:=CellsAt.form hv
 have HV:=hD hv
 have HY:=hD (fun k hk h hx=>zf18 (l:=l) (x:=x) (k:=k) hk h hx)
 have HM:=hD (fun h=>zo14 (l:=l) (x:=x) h)
 generalize idxI l x=r at HY HM
 clear hv
 go_enter Tryz.func139,Tryz.ntmps139
 go_wp2
 go_loop [5,8] (fun _ i=>∃ k:Nat,k≤l.length∧i=.int .i64 k∧Hid (∀ j (hj:j<l.length),j<k→l[j]≠x)) (fun _ i=>l.length - (intOf i).toNat)
 case atStart=>exact⟨0,by omega,rfl,hD (fun j hj h=>absurd h (by omega))⟩
 case round=>
  obtain⟨k,hk,rfl,HN⟩:=hrel
  by_cases hlt:k<l.length
  ·obtain⟨b,off,rfl,hb,hc⟩:=zf3 HV.out k hlt
   by_cases he:l[k]=x
   ·have HX:=hD (HY.out k hlt HN.out he)
    have e1:(x.toList == l[k].toList)=true:=by rw [he];simp
    generalize l[k]=y at hc e1
    clear he
    go_wp2
    go_ret
    exact⟨by rw [HX.out];rfl,rfl⟩
   ·have HN2:Hid (∀ j (hj:j<l.length),j<k+1→l[j]≠x):=hD (fun j hj h=>by
     by_cases hjk:j<k
     ·exact HN.out j hj hjk
     ·obtain rfl:j=k:=by omega
      exact he)
    have e1:(x.toList == l[k].toList)=false:=zz1 (fun e=>he e.symm)
    generalize l[k]=y at hc e1
    clear he
    go_wp2
    go_round
    case rel=>exact⟨k+1,by omega,by go_num,HN2⟩
    case measure=>simp [intOf];omega
  ·obtain rfl:k=l.length:=by omega
   have HX:=hD (HM.out (fun j hj=>HN.out j hj (by omega)))
   go_wp2
   go_ret
   exact⟨by rw [HX.out];rfl,rfl⟩
set_option maxHeartbeats 2000000 in
theorem zp14 (l:List (ByteArray × Int)) (hm:l.length≤1000000) (v:Value) (x:ByteArray) (n:Int) (w:World) (hv:FunsAt w v l) :
  Calls Tryz.prog 140 #[v,.agg #[.string x,.int .i64 n]] w fun e w'=>e=.returned (.int .i64 (idxI l (x,n)))∧Below w.heap.size w w':=by
 obtain⟨A,c,rfl⟩:=CellsAt.form hv
 have HV:=hD hv
 have HY:=hD (fun k hk h hx=>zf18 (l:=l) (x:=(x,n)) (k:=k) hk h hx)
 have HM:=hD (fun h=>zo14 (l:=l) (x:=(x,n)) h)
 have B0:=hD (za w (.cells #[.string x,.int .i64 n] 61))
 have X0:=hD (Box.new w 61 #[.string x,.int .i64 n])
 generalize idxI l (x,n)=r at HY HM
 clear hv
 go_enter Tryz.func140,Tryz.ntmps140
 go_wp2
 go_loopw [5,8] (fun _ i wr=>∃ k:Nat,k≤l.length∧i=.int .i64 k∧Hid (∀ j (hj:j<l.length),j<k→l[j]≠(x,n))∧Hid (Below w.heap.size w wr)∧Hid (Box wr w.heap.size 61 #[.string x,.int .i64 n])) (fun _ i _=>l.length - (intOf i).toNat)
 case atStart=>exact⟨0,by omega,rfl,hD (fun j hj h=>absurd h (by omega)),B0,X0⟩
 case round=>
  obtain⟨k,hk,rfl,HN,HB,HX⟩:=hrel
  clear B0 X0
  have c0:=HX.out.cell 0
  have c1:=HX.out.cell 1
  by_cases hlt:k<l.length
  ·obtain⟨b,off,rfl,hb,hc0,hc1⟩:=zy1 HV.out k hlt
   have d0:=(HB.out.cell (p:=⟨b,off+k * 2,none⟩) hb).trans hc0
   have d1:=(HB.out.cell (p:=⟨b,off+k * 2+1,none⟩) hb).trans hc1
   have i1:(k:Int)<(l.length:Int):=by omega
   have i2:(0:Int)≤(k:Int):=by omega
   clear hc0 hc1
   by_cases he:l[k]=(x,n)
   ·have HZ:=hD (HY.out k hlt HN.out he)
    have e1:(x.toList=l[k].1.toList)=True:=by rw [he];simp
    have e2:(n=l[k].2)=True:=by rw [he];simp
    generalize l[k].1=y at d0 e1
    generalize l[k].2=m at d1 e2
    clear he
    go_upto_region 4 with(fail)
    go_quiet (fail)
    go_wp2
    go_ret
    exact⟨by rw [HZ.out];rfl,zo HB.out _⟩
   ·have HN2:Hid (∀ j (hj:j<l.length),j<k+1→l[j]≠(x,n)):=hD (fun j hj h=>by
     by_cases hjk:j<k
     ·exact HN.out j hj hjk
     ·obtain rfl:j=k:=by omega
      exact he)
    have hne:¬ (x=l[k].1∧n=l[k].2):=fun e=>he (Prod.ext e.1.symm e.2.symm)
    by_cases h1:x=l[k].1
    ·have e1:(x.toList=l[k].1.toList)=True:=by rw [h1];simp
     have e2:(n=l[k].2)=False:=by simpa using fun e=>hne ⟨h1,e⟩
     generalize l[k].1=y at d0 e1
     generalize l[k].2=m at d1 e2
     clear he hne h1
     go_upto_region 4 with(fail)
     go_quiet (fail)
     go_wp2
     go_roundw
     case rel=>exact⟨k+1,by omega,by go_num,HN2,hD (zo HB.out _),hD (HX.out.drewN _)⟩
     case measure=>simp [intOf];omega
    ·have e1:(x.toList=l[k].1.toList)=False:=by
      have:=zz1 h1
      simpa using this
     generalize l[k].1=y at d0 e1
     generalize l[k].2=m at d1
     clear he hne h1
     go_upto_region 4 with(fail)
     go_quiet (fail)
     go_wp2
     go_roundw
     case rel=>exact⟨k+1,by omega,by go_num,HN2,hD (zo HB.out _),hD (HX.out.drewN _)⟩
     case measure=>simp [intOf];omega
  ·obtain rfl:k=l.length:=by omega
   have HZ:=hD (HM.out (fun j hj=>HN.out j hj (by omega)))
   go_wp2
   go_ret
   exact⟨by rw [HZ.out];rfl,HB.out⟩
theorem ze15 (w0:World) (g M:Nat) (va vf vp vc vq:Value) (s:St) (x:ByteArray) (hl:s.ob.atoms.length≤1000000) (w:World) (hk:Mk w0 w g M va vf vp vc vq s) :
  Calls Tryz.prog 108 #[.pointer (some ⟨g,0,none⟩),.string x] w fun e w'=>∃ va',e=.returned (.int .i64 (placeOf s.ob.atoms x:Nat))∧Mk w0 w' g M va' vf vp vc vq { s with ob:={ s.ob with atoms:=addTo s.ob.atoms x } }∧MkF w w' g M va vf vp vc vq va' vf vp vc vq:=by
 have HK:=hD hk
 have c0:=hk.box.cell 0
 have HI:=hD (zq14 s.ob.atoms hl va x w hk.at_.atoms)
 by_cases hx:x ∈ s.ob.atoms
 ·have hi:idxI s.ob.atoms x=(placeOf s.ob.atoms x:Nat):=if_pos hx
  rw [hi] at HI
  have HE:Hid (({ s with ob:={ s.ob with atoms:=addTo s.ob.atoms x } }:St)=s):=hD (by rw [ze9 hx])
  generalize placeOf s.ob.atoms x=n at HI
  clear hx hi hk
  go_enter Tryz.func108,Tryz.ntmps108
  go_wp2_with (go_at_call 139;refine HI.out.mono ?_;rintro e w2 ⟨rfl,rfl⟩)
  go_ret
  exact⟨va,rfl,by rw [HE.out];exact HK.out,MkF.below (Below.refl _ _)⟩
 ·have hi:idxI s.ob.atoms x = -1:=if_neg hx
  rw [hi] at HI
  have HE:Hid (({ s with ob:={ s.ob with atoms:=addTo s.ob.atoms x } }:St)={ s with ob:={ s.ob with atoms:=s.ob.atoms ++ [x] } }):=hD (by rw [zr12 hx])
  have HP:=hD (zs7 _ _ hx)
  obtain⟨A,c,hva,_⟩:=zl hk.ra
  subst hva
  have c0a:=fun oo=>(hk.box.alloc oo).cell 0
  obtain⟨v6,w6,hr6,HA6⟩:=zp1 slStr hk.ra [.string x] rfl (by intro u hu;simp only [List.mem_cons,List.not_mem_nil,or_false] at hu;rcases hu with rfl;rfl) hl hk.below.size 22
  obtain⟨A6,c6,hv6⟩:=HA6.out.form
  subst hv6
  obtain⟨hT6,z0,z1⟩:=hk.puta HA6.out
  have HT6:=hD hT6
  have HF6:=hD (MkF.puta (g:=g) (M:=M) (vf:=vf) (vp:=vp) (vc:=vc) (vq:=vq) HA6.out)
  have HR6:=hD hr6
  clear hx hi hk hr6 hT6 HA6
  go_enter Tryz.func108,Tryz.ntmps108
  go_wp2_with (first
   | (go_at_call 139;refine HI.out.mono ?_;rintro e w2 ⟨rfl,rfl⟩)
   | (at_builtin;refine zv HR6.out rfl _ _ rfl rfl rfl ?_))
  go_ret
  exact⟨_,by rw [HP.out];rfl,by rw [HE.out];exact HT6.out,HF6.out⟩
end Go.Proofs.YtlmbiafloiompaaGreatDoor
