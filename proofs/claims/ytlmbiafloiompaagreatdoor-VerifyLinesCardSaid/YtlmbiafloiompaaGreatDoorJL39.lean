/-
  7 texts in one (VDocT CodeQ CodeR AsmM AsmP AsmB IntMap). Conditions: those of each theorem.
-/
import Derived.Test.YtlmbiafloiompaaGreatDoorJL35
import Derived.Test.YtlmbiafloiompaaGreatDoorJL36
import Derived.Test.YtlmbiafloiompaaGreatDoorJL37
import Derived.Test.YtlmbiafloiompaaGreatDoorJL38
import Derived.Test.YtlmbiafloiompaaGreatDoorJL04
import Derived.Test.YtlmbiafloiompaaGreatDoorJL01
import Derived.IntWalk
import Derived.Deep.QuietTactic
import Derived.BigQuiet
import Derived.Lib.ItoaLen
import Derived.Laws.Concat
import Derived.Test.YtlmbiafloiompaaGreatDoorJL08
import Derived.Laws.AppendOwn
import Derived.Laws.OwnMore
import Derived.WalkSpells
import Derived.Lib.IndexMore
import Derived.Lib.IndexBytes
import Derived.Test.YtlmbiafloiompaaGreatDoorProg
import Derived.Maps.OwnSet
import Derived.Maps.OwnOps
import Derived.Lib.Hide
namespace Go.Proofs.YtlmbiafloiompaaGreatDoor
open Go Go.RowKit
set_option linter.unusedVariables false
set_option linter.unusedSimpArgs false
set_option maxRecDepth 100000
def RCheck11:Prop:=∀ {o:Ob} (hwf:ObWf o) {va vf vp vc:Value} (w:World) (hv:ObAt w va vf vp vc o),Calls Tryz.prog 15 #[.agg #[va,vf,vp,vc]] w (CheckD w o)
theorem pass_w {o:Ob} (ho:ObK o) {ar stop:Int} (har:0≤ar∧ar≤8) {n:Nat} (hn:n<o.code.length) {P Q:List VPl} (hP:PlW P) (h:passV o ar stop n P=some Q):PlW Q:=by
 unfold passV at h
 simp only at h
 have hp:StW (P.getD n plZero).s:=by
  rw [List.getD_eq_getElem?_getD]
  cases hx:P[n]? with
  | none=>exact StW.zero
  | some p=>exact hP p (List.mem_of_getElem? hx)
 have hi:InsK o (o.code.getD n (0,0,0,0,0)):=by
  rw [List.getD_eq_getElem?_getD,List.getElem?_eq_getElem hn]
  exact ho.ins _ (List.getElem_mem hn)
 generalize P.getD n plZero=p at h hp
 generalize o.code.getD n (0,0,0,0,0)=i at h hi
 split at h
 ·cases h
 ·rename_i hc
  injection h with h
  subst h
  have ha:asksV o ar i p.s=true:=by
   cases hx:asksV o ar i p.s with
   | true=>rfl
   | false=>exact absurd (.inr (.inr (.inl hx))) hc
  have hs:=StW.makes ho hi ha hp
  refine PlW.brings (P:=P) (fun _=>if i.1=26 then makesV o i p.s else stOther ar.toNat) _ _ ?_ (fun t _=>?_)
  ·split
   ·exact hP.bring _ hs
   ·exact hP
  ·split
   ·exact hs
   ·exact StW.other _ (by omega)
theorem zu14 {o:Ob} (ho:ObK o):∀ (f n:Nat) (P:List VPl) (l l':List VSt),n+f=o.code.length→PlW P→(∀ s ∈ l,StOk s)→walkV o f n P l=.ok l'→(∀ s ∈ l',StOk s)∧l'.length=l.length+f
 | 0,n,P,l,l',_,_,hl,h=>by
  injection h with h
  subst h
  exact⟨hl,rfl⟩
 | f+1,n,P,l,l',hn,hP,hl,h=>by
  rw [walkV] at h
  cases hx:passV o (arityP o (ownV o n)) (stopV o n) n P with
  | none=>rw [hx] at h;cases h
  | some Q=>
   rw [hx] at h
   have hQ:=pass_w ho (zk2 ho _) (by omega) hP hx
   have hp:StOk (P.getD n plZero).s:=by
    rw [List.getD_eq_getElem?_getD]
    cases hy:P[n]? with
    | none=>exact StW.zero.ok
    | some p=>exact(hP p (List.mem_of_getElem? hy)).ok
   obtain⟨h1,h2⟩:=zu14 ho f (n+1) Q _ l' (by omega) hQ (fun s hs=>by
    rcases List.mem_append.1 hs with hs | hs
    ·exact hl s hs
    ·rw [List.mem_singleton.1 hs]
     exact hp) h
   refine⟨h1,?_⟩
   rw [h2,List.length_append,List.length_singleton]
   omega
theorem start_w {o:Ob} (ho:ObK o):PlW (startV o):=by
 unfold startV
 have h:∀ (L:List (ByteArray × Int × Int)) (P:List VPl),(∀ p ∈ L,p ∈ o.preds)→PlW P→PlW (L.foldl (fun P p=>P.set p.2.2.toNat ⟨true,false,stEntry p.2.1.toNat⟩) P):=by
  intro L
  induction L with
  | nil=>intro P _ hP;exact hP
  | cons p L ih=>
   intro P hL hP
   rw [List.foldl_cons]
   refine ih _ (fun q hq=>hL q (List.mem_cons_of_mem _ hq)) ?_
   intro q hq
   rcases List.mem_or_eq_of_mem_set hq with hq | rfl
   ·exact hP q hq
   ·have:=ho.pred p (hL p List.mem_cons_self)
    exact StW.entry _ (by omega)
 exact h o.preds _ (fun _ hp=>hp) (PlW.zeros _)
theorem zt5 (o:Ob):(∀ s ∈ (verifyOf o).1,StOk s)∧(verifyOf o).2.1.length=(verifyOf o).1.length∧(verifyOf o).1.length≤1024:=by
 by_cases h1:checkOf o=0
 ·have ho:=ObK.of h1
  by_cases h2:o.preds.any noneP=false
  ·cases h3:walkV o o.code.length 0 (startV o) [] with
   | error m=>
    rw [v_bad h1 h2 h3]
    exact⟨fun s hs=>(by cases hs),rfl,Nat.zero_le _⟩
   | ok l=>
    rw [v_ok h1 h2 h3]
    obtain⟨h4,h5⟩:=zu14 ho o.code.length 0 _ [] l (by omega) (start_w ho) (fun s hs=>by cases hs) h3
    have hlc:=ho.lc
    refine⟨h4,?_,?_⟩
    ·show(needsV o o.code.length).length=l.length
     rw [zu2,h5,List.length_nil,Nat.zero_add]
    ·show l.length≤1024
     rw [h5,List.length_nil]
     omega
  ·rw [v_none h1 (by simpa using h2)]
   exact⟨fun s hs=>(by cases hs),rfl,Nat.zero_le _⟩
 ·rw [zh16 h1]
  exact⟨fun s hs=>(by cases hs),rfl,Nat.zero_le _⟩
set_option maxHeartbeats 4000000 in
theorem ze18 (HR:RCheck11) {o:Ob} (hwf:ObWf o) {va vf vp vc:Value} (w:World) (hnm:NamesAt w) (hv:ObAt w va vf vp vc o) (hnil:∀ k c,va=.slice none k c→c=0) :
  Calls Tryz.prog 8 #[.agg #[va,vf,vp,vc]] w fun e w'=>e=.returned (.bool true)∧Below w.heap.size w w':=by
 have HCK:=hD (fun W h1 h2=>zx8 sort_ok zs17 o hwf (va:=va) (vf:=vf) (vp:=vp) (vc:=vc) W h1 h2)
 unfold CheckW at HCK
 have HFR:=hD (fun W h=>zn18 o hwf va vf vp vc W h hnil)
 have HRC:=hD (fun ua uf up uc W h=>HR hwf (va:=ua) (vf:=uf) (vp:=up) (vc:=uc) W h)
 unfold CheckD at HRC
 have HSM:=hD (fun vs1 vn1 vs2 vn2 W h1 h2 h3 h4=>same_any (zt5 o).1 (zt5 o).2.1 (Nat.le_trans (zt5 o).2.2 (by decide)) (vs1:=vs1) (vn1:=vn1) (vs2:=vs2) (vn2:=vn2) W h1 h2 h3 h4)
 obtain⟨⟨l,N,c,m⟩,hvo⟩:∃ r,verifyOf o=r:=⟨_,rfl⟩
 rw [hvo] at HCK HRC HSM
 simp only at HCK HRC HSM
 clear hvo HR
 obtain⟨A1,c1,rfl⟩:=CellsAt.form hv.atoms
 obtain⟨A2,cf,rfl⟩:=CellsAt.form hv.funs
 obtain⟨A3,cp,rfl⟩:=CellsAt.form hv.preds
 obtain⟨A4,cc,rfl⟩:=CellsAt.form hv.code
 have hb0:=zc w (.cells #[.slice A1 o.atoms.length c1,.slice A2 o.funs.length cf,.slice A3 o.preds.length cp,.slice A4 o.code.length cc] 35)
 have HB:=hD hb0
 have HX:=hD (Box.new w 35 #[.slice A1 o.atoms.length c1,.slice A2 o.funs.length cf,.slice A3 o.preds.length cp,.slice A4 o.code.length cc])
 have HV:=hD (hv.below hb0)
 have HNM:=hD (hnm.below hb0 hnm.lt)
 clear hv hnm hnil hb0
 obtain⟨g,hg⟩:∃ g,w.heap.size=g:=⟨_,rfl⟩
 go_enter Tryz.func8,Tryz.ntmps8
 go_upto_region 1 with(fail)
 obtain⟨w1,hw1⟩:∃ w1,w.alloc (.cells #[.slice A1 o.atoms.length c1,.slice A2 o.funs.length cf,.slice A3 o.preds.length cp,.slice A4 o.code.length cc] 35)=w1:=⟨_,rfl⟩
 rw [hw1] at HB HX HV HNM ⊢
 rw [hg] at HX
 try rw [hg]
 clear hw1
 have q0:=HX.out.cell 0
 have q1:=HX.out.cell 1
 have q2:=HX.out.cell 2
 have q3:=HX.out.cell 3
 go_upto_region 2 with(go_at_call 13;refine(HCK.out _ HNM.out HV.out).mono ?_;rintro e w2 ⟨vs,vn,rfl,hvs,hvn,hb2⟩;obtain⟨As,ks,hvsf⟩:=CellsAt.form hvs;obtain⟨An,kn,hvnf⟩:=CellsAt.form hvn;subst hvsf hvnf;have HVS:=hD hvs;have HVN:=hD hvn;have HB2:=hD hb2;clear hvs hvn hb2)
 clear q0 q1 q2 q3
 have hba:=zc w2 (.cells #[.slice As l.length ks,.slice An N.length kn] 49)
 have HRP:=hD (Box.new w2 49 #[.slice As l.length ks,.slice An N.length kn])
 have hB3:=HB2.out.trans (hba.mono HB2.out.size)
 have HX3:=hD (HX.out.below hB3 HX.out.lt)
 have HV3:=hD (HV.out.below hB3)
 have HVS3:=hD (CellsAt.below HVS.out hba)
 have HVN3:=hD (CellsAt.below HVN.out hba)
 have HBw3:=hD (HB.out.trans (hB3.mono HB.out.size))
 obtain⟨w3,hw3⟩:∃ w3,w2.alloc (.cells #[.slice As l.length ks,.slice An N.length kn] 49)=w3:=⟨_,rfl⟩
 obtain⟨gr,hgr⟩:∃ gr,w2.heap.size=gr:=⟨_,rfl⟩
 rw [hw3] at HRP HX3 HV3 HVS3 HVN3 HBw3 ⊢
 rw [hgr] at HRP ⊢
 clear hba hB3 hw3 hgr HX HV HVS HVN HB HB2 HNM
 have q0:=HX3.out.cell 0
 have q1:=HX3.out.cell 1
 have q2:=HX3.out.cell 2
 have q3:=HX3.out.cell 3
 go_upto_region 3 with(first | (go_at_call 11;refine(HFR.out _ HV3.out).mono ?_;rintro e w4 ⟨ua,uf,up,uc,rfl,hu4,hb4,_⟩;have HU4:=hD hu4;have HB4:=hD hb4;clear hu4 hb4) | (go_at_call 15;refine(HRC.out _ _ _ _ _ HU4.out).mono ?_;rintro e w5 ⟨ws,wn,rfl,hws,hwn,hb5⟩;have HWS:=hD hws;have HWN:=hD hwn;have HB5:=hD (HB4.out.trans (hb5.mono HB4.out.size));clear hws hwn hb5))
 have HRP5:=hD (HRP.out.below HB5.out HRP.out.lt)
 have HVS5:=hD (CellsAt.below HVS3.out HB5.out)
 have HVN5:=hD (CellsAt.below HVN3.out HB5.out)
 have HBw5:=hD (HBw3.out.trans (HB5.out.mono HBw3.out.size))
 clear q0 q1 q2 q3
 have q0:=HRP5.out.cell 0
 have q1:=HRP5.out.cell 1
 go_wp2_with (go_at_call 16;refine(HSM.out _ _ _ _ _ HVS5.out HVN5.out HWS.out HWN.out).mono ?_;rintro e w6 ⟨rfl,hb6⟩;have HBw6:=hD (HBw5.out.trans (hb6.mono HBw5.out.size));clear hb6)
 go_ret
 exact⟨rfl,HBw6.out⟩
end Go.Proofs.YtlmbiafloiompaaGreatDoor

namespace Go.Proofs.YtlmbiafloiompaaGreatDoor
open Go Go.RowKit Go.WideShapes Go.ChangeShapes
set_option linter.unusedVariables false
def splitW:List UInt8→List (List UInt8)
 | []=>[[]]
 | c :: r=>if c=32 then [] :: splitW r else match splitW r with
  | []=>[[c]]
  | w :: ws=>(c :: w) :: ws
theorem zs14 (l:List UInt8):splitW l≠[]:=by
 cases l with
 | nil=>simp [splitW]
 | cons c r=>
  rw [splitW]
  split
  ·simp
  ·split <;> simp
theorem zl3:∀ {w:List UInt8},noBlank w→splitW w=[w]:=by
 intro w
 induction w with
 | nil=>intro _;rfl
 | cons c r ih=>
  intro h
  rw [splitW,if_neg (h c (by simp)),ih (fun x hx=>h x (by simp [hx]))]
theorem zk7:∀ {w:List UInt8} (r:List UInt8),noBlank w→splitW (w ++ 32 :: r)=w :: splitW r:=by
 intro w r
 induction w with
 | nil=>intro _;simp [splitW]
 | cons c w ih=>
  intro h
  rw [List.cons_append,splitW,if_neg (h c (by simp)),ih (fun x hx=>h x (by simp [hx]))]
theorem za10:∀ (ws:List (List UInt8)) (w0:List UInt8),noBlank w0→(∀ w ∈ ws,noBlank w)→splitW (w0 ++ ws.flatMap (32 :: ·))=w0 :: ws:=by
 intro ws
 induction ws with
 | nil=>intro w0 h0 _;simp [zl3 h0]
 | cons w ws ih=>
  intro w0 h0 hws
  rw [List.flatMap_cons,List.cons_append,zk7 _ h0,ih w (hws w (by simp)) (fun x hx=>hws x (by simp [hx]))]
def digOk (c:UInt8):Bool:=decide (48≤c.toNat∧c.toNat≤57)
def valOf (l:List UInt8):Nat:=l.foldl (fun n c=>10 * n+(c.toNat - 48)) 0
def rnumOf (w:List UInt8):Int:=
 if w.length<1 ∨ 7<w.length then -1
 else if w.all digOk=true then(if Lib.itoa (valOf w:Int)=w then(valOf w:Int) else -1)
 else -1
end Go.Proofs.YtlmbiafloiompaaGreatDoor

namespace Go.Proofs.YtlmbiafloiompaaGreatDoor
open Go Go.RowKit Go.WideShapes Go.ChangeShapes
set_option linter.unusedVariables false
def WordsAt (s:List UInt8) (f i:Nat) (done:List (List UInt8)):Prop:=
 (f≤i∧i≤s.length∧done.length≤f∧splitW s=done ++ splitW (s.drop f)∧noBlank ((s.drop f).take (i - f))) ∨ (i=s.length+1∧splitW s=done∧done.length≤s.length+1)
theorem WordsAt.zero (s:List UInt8):WordsAt s 0 0 []:=.inl ⟨Nat.le_refl _,Nat.zero_le _,Nat.le_refl _,rfl,fun c hc=>by simp at hc⟩
end Go.Proofs.YtlmbiafloiompaaGreatDoor

namespace Go.Proofs.YtlmbiafloiompaaGreatDoor
open Go
set_option linter.unusedVariables false
set_option linter.unusedSimpArgs false
def numUpto (w:List UInt8) (g:Int):Option Int:=if 0≤rnumOf w∧rnumOf w≤g then some (rnumOf w) else none
def slashAt:List UInt8→Option (List UInt8 × List UInt8)
 | []=>none
 | c :: r=>if c=47 then some ([],r) else(slashAt r).map fun p=>(c :: p.1,p.2)
def funOf (w:List UInt8) (least:Int):Option (ByteArray × Int):=
 match slashAt w with
 | none=>none
 | some (a,d)=>match numUpto d 8 with
  | none=>none
  | some n=>if least≤n∧nameOk (bs a)=true then some (bs a,n) else none
def labelOf (w:List UInt8):Option Int:=match w with
 | 64 :: d=>numUpto d 1023
 | _=>none
def placeOf {α:Type} [DecidableEq α] (l:List α) (x:α):Nat:=l.findIdx fun y=>decide (y=x)
def addTo {α:Type} [DecidableEq α] (l:List α) (x:α):List α:=if x ∈ l then l else l ++ [x]
def predStep (o:Ob) (f:ByteArray × Int):Int × Ob:=
 if findFrom f.1 f.2 0 o.preds<0 then((o.preds.length:Int),{ o with preds:=o.preds ++ [(f.1,f.2,65535)] }) else(findFrom f.1 f.2 0 o.preds,o)
def opdOf (kind:Int) (w:List UInt8):Option Int:=
 match numOf kind w with
 | none=>none
 | some n=>if lowOf kind≤n∧n≤highOf kind∧wordOf kind n=w then some n else none
def opStep (op kind:Int) (w:List UInt8) (o:Ob):Option (Int × Ob):=
 if kind=3 then(if nameOk (bs w)=true then some ((placeOf o.atoms (bs w):Int),{ o with atoms:=addTo o.atoms (bs w) }) else none)
 else if kind=4 then(funOf w 1).map fun f=>((placeOf o.funs f:Int),{ o with funs:=addTo o.funs f })
 else if kind=7 then(funOf w 0).map fun f=>predStep o f
 else if kind=8 then
  (if w=[45] then(if op=26 then some (65535,o) else none) else(labelOf w).map fun n=>(n,o))
 else(opdOf kind w).map fun n=>(n,o)
def opsStep (op:Int):List Int→List (List UInt8)→Ob→Option (List Int × Ob)
 | [],_,o=>some ([],o)
 | k :: ks,ws,o=>match opStep op k (ws.headD []) o with
  | none=>none
  | some (x,o')=>(opsStep op ks ws.tail o').map fun r=>(x :: r.1,r.2)
structure St where
 ob:Ob
 labs:List (Int × Int)
 pts:List (Int × Int × Bool)
def startSt:St:=⟨emptyOb,[],[]⟩
def labOf (labs:List (Int × Int)) (k:Int):Option Int:=(labs.find? fun p=>p.1 == k).map (·.2)
def predLine (n:Int) (w:List UInt8) (s:St):Except Int St:=
 match funOf w 0 with
 | none=>.error 17
 | some f=>
  if ((predStep s.ob f).2.preds.getD (predStep s.ob f).1.toNat (⟨#[]⟩,0,0)).2.2≠65535 then .error 11
  else .ok { s with ob:={ (predStep s.ob f).2 with preds:=(predStep s.ob f).2.preds.set (predStep s.ob f).1.toNat (f.1,f.2,(s.ob.code.length:Int)) },pts:=s.pts ++ [(n,(s.ob.code.length:Int),true)] }
def labelLine (w:List UInt8) (s:St):Except Int St:=
 match numUpto w 1023 with
 | none=>.error 17
 | some k=>if (labOf s.labs k).isSome=true then .error 11 else .ok { s with labs:=s.labs ++ [(k,(s.ob.code.length:Int))] }
def instrLine (n:Int) (l:List UInt8) (s:St):Except Int St:=
 if namedOf (bs ((splitW l).getD 0 []))<0 ∨ (splitW l).length - 1≠(opsOf (namedOf (bs ((splitW l).getD 0 [])))).length then .error 17
 else match opsStep (namedOf (bs ((splitW l).getD 0 []))) (opsOf (namedOf (bs ((splitW l).getD 0 [])))) (splitW l).tail s.ob with
  | none=>.error 17
  | some (x,o')=>.ok { s with ob:={ o' with code:=o'.code ++ [insOf (namedOf (bs ((splitW l).getD 0 []))) x] },pts:=s.pts ++ [(n,(s.ob.code.length:Int),false)] }
def predWord:List UInt8:=[112,114,101,100,32]
def lineStep (n:Int) (l:List UInt8) (s:St):Except Int St:=
 if predWord.isPrefixOf l=true then predLine n (l.drop 5) s
 else match l with
  | 64 :: d=>labelLine d s
  | _=>instrLine n l s
def bigO (o:Ob):Bool:=bigB o.atoms.length o.funs.length o.preds.length o.code.length
def linesStep:Nat→List (List UInt8)→St→Except (Int × Int) St
 | _,[],s=>.ok s
 | n,l :: ls,s=>match lineStep n l s with
  | .error e=>.error (e,n)
  | .ok s'=>if bigO s'.ob=true then .error (2,n) else linesStep (n+1) ls s'
def placeArgs (labs:List (Int × Int)) (m:Nat):List Int→List Int→Option (List Int)
 | [],xs=>some xs
 | k :: ks,xs=>
  if k=8∧xs.headD 0≠65535 then match labOf labs (xs.headD 0) with
   | none=>none
   | some x=>if (m:Int)≤x then none else(placeArgs labs m ks xs.tail).map (x :: ·)
  else(placeArgs labs m ks xs.tail).map (xs.headD 0 :: ·)
def placeIns (labs:List (Int × Int)) (m:Nat) (i:Ins):Option Ins:=(placeArgs labs m (opsOf i.1) (argOf i)).map fun l=>insOf i.1 l
def ptStep (labs:List (Int × Int)) (o:Ob) (p:Int × Int × Bool):Except (Int × Int) Ob:=
 if p.2.2=true then
  (if (o.code.length:Int)≤p.2.1 ∨ 1<(o.preds.filter fun q=>q.2.2 == p.2.1).length then .error (7,p.1) else .ok o)
 else match placeIns labs o.code.length (o.code.getD p.2.1.toNat (0,0,0,0,0)) with
  | none=>.error (10,p.1)
  | some i=>.ok { o with code:=o.code.set p.2.1.toNat i }
def ptsStep (labs:List (Int × Int)):List (Int × Int × Bool)→Ob→Except (Int × Int) Ob
 | [],o=>.ok o
 | p :: ps,o=>match ptStep labs o p with
  | .error e=>.error e
  | .ok o'=>ptsStep labs ps o'
def asmOf (ls:List (List UInt8)):Ob × Int × Int:=
 match linesStep 0 ls startSt with
 | .error (e,n)=>(emptyOb,e,n)
 | .ok s=>match ptsStep s.labs s.pts s.ob with
  | .error (e,n)=>(emptyOb,e,n)
  | .ok o=>(o,0,-1)
end Go.Proofs.YtlmbiafloiompaaGreatDoor

namespace Go.Proofs.YtlmbiafloiompaaGreatDoor
open Go
set_option linter.unusedVariables false
set_option linter.unusedSimpArgs false
def argW (op kind:Int) (w:List UInt8):Option Int:=
 match numOf kind w with
 | none=>none
 | some n=>if mayB op kind n=true∧wordOf kind n=w then some n else none
def argsW (op:Int):List Int→List (List UInt8)→Option (List Int)
 | [],_=>some []
 | k :: ks,ws=>match argW op k (ws.headD []) with
  | none=>none
  | some x=>(argsW op ks ws.tail).map (x :: ·)
theorem zx12 {op kind n:Int} {w:List UInt8} (h:argW op kind w=some n):mayB op kind n=true∧wordOf kind n=w:=by
 unfold argW at h
 split at h
 ·cases h
 ·rename_i m hm
  split at h
  ·rename_i hc
   injection h with h
   subst h
   exact hc
  ·cases h
theorem argW_of {op:Int} {k:Nat} {n:Int} {w:List UInt8} (hk:k<(opsOf op).length) (hm:mayB op ((opsOf op).getD k 0) n=true) (hw:wordOf ((opsOf op).getD k 0) n=w):argW op ((opsOf op).getD k 0) w=some n:=by
 have hkd:=zd4 op k
 have hb:=(za15 hkd.1 hkd.2 (zb9 hk hm)).1
 rw [hw] at hb
 unfold argW
 rw [hb]
 simp only
 rw [if_pos ⟨hm,hw⟩]
theorem zy12 {op:Int}:∀ {ks:List Int} {ws:List (List UInt8)} {L:List Int},argsW op ks ws=some L→L.length=ks.length
 | [],_,L,h=>by
  injection h with h
  subst h
  rfl
 | k :: ks,ws,L,h=>by
  rw [argsW] at h
  split at h
  ·cases h
  ·rename_i x hx
   cases h1:argsW op ks ws.tail with
   | none=>rw [h1] at h;cases h
   | some M=>
    rw [h1] at h
    injection h with h
    subst h
    simp [zy12 h1]
theorem zz11 {op:Int}:∀ (ks:List Int) (ws:List (List UInt8)) (L:List Int),argsW op ks ws=some L ↔ L.length=ks.length∧∀ k,k<ks.length→argW op (ks.getD k 0) (ws.getD k [])=some (L.getD k 0)
 | [],ws,L=>by
  rw [argsW]
  constructor
  ·intro h
   injection h with h
   subst h
   exact⟨rfl,fun k hk=>absurd hk (by simp)⟩
  ·rintro⟨h,_⟩
   rw [List.length_eq_zero_iff.1 h]
 | k :: ks,ws,L=>by
  have ih:=zz11 (op:=op) ks ws.tail
  have hd:ws.headD []=ws.getD 0 []:=by cases ws <;> rfl
  have ht:∀ j,ws.tail.getD j []=ws.getD (j+1) []:=fun j=>by cases ws <;> simp
  rw [argsW,hd]
  constructor
  ·intro h
   split at h
   ·cases h
   ·rename_i x hx
    cases h1:argsW op ks ws.tail with
    | none=>rw [h1] at h;cases h
    | some M=>
     rw [h1] at h
     injection h with h
     subst h
     obtain⟨g1,g2⟩:=(ih M).1 h1
     refine⟨by simp [g1],fun j hj=>?_⟩
     cases j with
     | zero=>simpa using hx
     | succ j=>
      have:=g2 j (by simpa using hj)
      rw [ht] at this
      simpa using this
  ·rintro⟨h1,h2⟩
   cases L with
   | nil=>simp at h1
   | cons x M=>
    have h0:=h2 0 (by simp)
    simp only [List.getD_cons_zero] at h0
    rw [h0]
    simp only
    have h3:=(ih M).2 ⟨by simpa using h1,fun j hj=>by
     have:=h2 (j+1) (by simpa using hj)
     simp only [List.getD_cons_succ] at this
     rw [ht]
     exact this⟩
    rw [h3]
    rfl
theorem zs15 (K:Nat) (hK:K<27) (ws:List (List UInt8)) (hn:ws.length=(opsOf (K:Int)).length) (hnb:∀ w ∈ ws,noBlank w) :
  parseP ((nameAt K).data.toList ++ ws.flatMap (32 :: ·))=(argsW (K:Int) (opsOf (K:Int)) ws).map fun L=>((K:Int),padded L):=by
 have hfew:=zd2 (K:Int)
 have hnm:∀ k,k<27→noBlank (nameAt k).data.toList:=fun k hk c hc e=>by
  subst e
  have:=zu7 k hk
  simp [hc] at this
 have hname:nameOf (K:Int)=nameAt K:=by rw [nameOf,if_pos (by omega)];rfl
 cases h:argsW (K:Int) (opsOf (K:Int)) ws with
 | some L=>
  obtain⟨g1,g2⟩:=(zz11 _ _ _).1 h
  have hat:∀ k,k<(opsOf (K:Int)).length→mayB (K:Int) ((opsOf (K:Int)).getD k 0) (L.getD k 0)=true∧wordOf ((opsOf (K:Int)).getD k 0) (L.getD k 0)=ws.getD k []:=fun k hk=>zx12 (g2 k hk)
  have hpad:∀ k,k<4→(padded L).getD k 0=L.getD k 0:=fun k hk=>by
   match k,hk with
   | 0,_=>rfl
   | 1,_=>rfl
   | 2,_=>rfl
   | 3,_=>rfl
  have hr:rightB (K:Int) (padded L)=true:=by
   rw [rightB,Bool.and_eq_true,List.all_eq_true]
   refine⟨decide_eq_true (by omega),fun k hk=>?_⟩
   have hk4:k<4:=List.mem_range.1 hk
   rw [hpad k hk4]
   by_cases hkn:k<(opsOf (K:Int)).length
   ·exact(hat k hkn).1
   ·have e1:(opsOf (K:Int)).getD k 0=0:=by rw [List.getD_eq_getElem?_getD,List.getElem?_eq_none (by omega)];rfl
    have e2:L.getD k 0=0:=by rw [List.getD_eq_getElem?_getD,List.getElem?_eq_none (by omega)];rfl
    rw [e1,e2]
    refine decide_eq_true (.inr ?_)
    have a:lowOf 0=0:=rfl
    have b:highOf 0=0:=rfl
    omega
  have ht:textOf (K:Int) (padded L)=(nameAt K).data.toList ++ ws.flatMap (32 :: ·):=by
   rw [textOf,if_pos hr,hname,zf10]
   congr 2
   refine List.ext_getElem (by simp [hn]) fun k h1 h2=>?_
   have hk:k<(opsOf (K:Int)).length:=by simpa using h1
   rw [List.getElem_map,List.getElem_range,hpad k (by omega),(hat k hk).2,List.getD_eq_getElem?_getD,List.getElem?_eq_getElem h2]
   rfl
  have hb:=za19 (op:=(K:Int)) (a:=L.getD 0 0) (b:=L.getD 1 0) (c:=L.getD 2 0) (d:=L.getD 3 0) hr
  have hb2:parseP (textOf (K:Int) (padded L))=some ((K:Int),padded L):=hb
  rw [ht] at hb2
  rw [hb2]
  rfl
 | none=>
  cases hp:parseP ((nameAt K).data.toList ++ ws.flatMap (32 :: ·)) with
  | none=>rfl
  | some x=>
   exfalso
   obtain⟨op,l⟩:=x
   obtain⟨ht,hr,L,hL⟩:=zh9 hp
   have hrg:=zr9 hr
   obtain⟨K2,rfl⟩:=Int.eq_ofNat_of_zero_le hrg.1
   have hK2:K2<27:=by omega
   have hname2:nameOf (K2:Int)=nameAt K2:=by rw [nameOf,if_pos hrg];rfl
   have hval:∀ k,k<(opsOf (K2:Int)).length→noBlank (wordOf ((opsOf (K2:Int)).getD k 0) (l.getD k 0)):=fun k hk=>by
    have hkd:=zd4 (K2:Int) k
    have hf:=zd2 (K2:Int)
    exact(za15 hkd.1 hkd.2 (zb9 hk (zz2 hr k (by omega)))).2
   have hs:=congrArg splitW ht
   rw [za10 _ _ (hnm K hK) hnb,textOf,if_pos hr,hname2,zf10,za10 _ _ (hnm K2 hK2) (fun w hw=>by
    obtain⟨j,hj,rfl⟩:=List.mem_map.1 hw
    exact hval j (List.mem_range.1 hj))] at hs
   injection hs with h1 h2
   have hKK:K2=K:=by
    have e:nameAt K2=nameAt K:=ByteArray.ext (Array.ext' h1)
    have a:=zd7 K2 hK2
    have b:=zd7 K hK
    rw [e,b] at a
    omega
   subst hKK
   have hsome:argsW (K2:Int) (opsOf (K2:Int)) ws=some ((List.range (opsOf (K2:Int)).length).map fun k=>l.getD k 0):=by
    refine(zz11 _ _ _).2 ⟨by simp,fun k hk=>?_⟩
    have hf:=zd2 (K2:Int)
    have e1:((List.range (opsOf (K2:Int)).length).map fun k=>l.getD k 0).getD k 0=l.getD k 0:=by
     rw [List.getD_eq_getElem?_getD,List.getElem?_map,List.getElem?_range hk]
     rfl
    rw [e1]
    refine argW_of hk (zz2 hr k (by omega)) ?_
    have e2:∀ f:Nat→List UInt8,((List.range (opsOf (K2:Int)).length).map f).getD k []=f k:=fun f=>by
     rw [List.getD_eq_getElem?_getD,List.getElem?_map,List.getElem?_range hk]
     rfl
    rw [← h2,e2]
   rw [h] at hsome
   cases hsome
def isNamedB (kind:Int) (w:List UInt8):Bool:=decide (kind=3 ∨ kind=4 ∨ kind=7 ∨ (kind=8∧w≠[45]))
def numStep (kind:Int) (w:List UInt8) (o:Ob):Option (Int × Ob):=
 if kind=3 then(if nameOk (bs w)=true then some ((placeOf o.atoms (bs w):Int),{ o with atoms:=addTo o.atoms (bs w) }) else none)
 else if kind=4 then(funOf w 1).map fun f=>((placeOf o.funs f:Int),{ o with funs:=addTo o.funs f })
 else if kind=7 then(funOf w 0).map fun f=>predStep o f
 else(labelOf w).map fun n=>(n,o)
def namesStep:List Int→List (List UInt8)→Ob→Option (List Int × List (List UInt8) × Ob)
 | [],_,o=>some ([],[],o)
 | k :: ks,ws,o=>
  if isNamedB k (ws.headD [])=true then match numStep k (ws.headD []) o with
   | none=>none
   | some (x,o')=>(namesStep ks ws.tail o').map fun r=>(x :: r.1,[48] :: r.2.1,r.2.2)
  else(namesStep ks ws.tail o).map fun r=>(0 :: r.1,ws.headD [] :: r.2.1,r.2.2)
def addL:List Int→List Int→List Int
 | [],_=>[]
 | x :: xs,ys=>(x+ys.headD 0) :: addL xs ys.tail
theorem zero_word (op kind:Int) (h:kind=3 ∨ kind=4 ∨ kind=7 ∨ kind=8):argW op kind [48]=some 0:=by
 have h1:numOf kind [48]=some 0:=by
  rcases h with rfl | rfl | rfl | rfl <;> decide +kernel
 have h2:wordOf kind 0=[48]:=by
  rcases h with rfl | rfl | rfl | rfl <;> decide +kernel
 have h3:mayB op kind 0=true:=by
  refine decide_eq_true (.inr ?_)
  rcases h with rfl | rfl | rfl | rfl <;> decide
 unfold argW
 rw [h1]
 simp only
 rw [if_pos ⟨h3,h2⟩]
theorem zp11 {op kind:Int} {w:List UInt8} {o:Ob} (h:isNamedB kind w=true):opStep op kind w o=numStep kind w o:=by
 have h0:=of_decide_eq_true h
 unfold opStep numStep
 rcases h0 with rfl | rfl | rfl | ⟨rfl,h1⟩
 ·rfl
 ·rfl
 ·rfl
 ·rw [if_neg (by decide),if_neg (by decide),if_neg (by decide),if_pos rfl,if_neg h1,if_neg (by decide),if_neg (by decide),if_neg (by decide)]
theorem dash_num:numOf 8 [45]=some 65535:=by decide +kernel
theorem dash_word:wordOf 8 65535=[45]:=by decide +kernel
theorem zq11 {op kind:Int} {w:List UInt8} {o:Ob} (h:isNamedB kind w=false) (hop:op=26→kind=8):opStep op kind w o=(argW op kind w).map fun n=>(n,o):=by
 have h:=of_decide_eq_false h
 unfold opStep
 rw [if_neg (fun e=>h (.inl e)),if_neg (fun e=>h (.inr (.inl e))),if_neg (fun e=>h (.inr (.inr (.inl e))))]
 by_cases h8:kind=8
 ·subst h8
  have hw:w=[45]:=Classical.byContradiction fun e=>h (.inr (.inr (.inr ⟨rfl,e⟩)))
  subst hw
  rw [if_pos rfl,if_pos rfl]
  unfold argW
  rw [dash_num]
  simp only
  by_cases ho:op=26
  ·rw [if_pos ho,if_pos ⟨decide_eq_true (.inl ⟨ho,rfl⟩),dash_word⟩]
   rfl
  ·rw [if_neg ho,if_neg (fun e=>by
    rcases of_decide_eq_true e.1 with⟨h1,_⟩ | ⟨_,h2⟩
    ·exact ho h1
    ·exact absurd h2 (by decide))]
   rfl
 ·rw [if_neg h8]
  have hm:∀ n,mayB op kind n=true ↔ lowOf kind≤n∧n≤highOf kind:=fun n=>by
   constructor
   ·intro e
    rcases of_decide_eq_true e with⟨h1,_⟩ | e
    ·exact absurd (hop h1) h8
    ·exact e
   ·exact fun e=>decide_eq_true (.inr e)
  unfold opdOf argW
  cases numOf kind w with
  | none=>rfl
  | some n=>
   simp only
   by_cases hc:mayB op kind n=true∧wordOf kind n=w
   ·rw [if_pos hc,if_pos ⟨((hm n).1 hc.1).1,((hm n).1 hc.1).2,hc.2⟩]
   ·rw [if_neg hc,if_neg (fun e=>hc ⟨(hm n).2 ⟨e.1,e.2.1⟩,e.2.2⟩)]
theorem zr11 (op:Int):∀ (ks:List Int) (ws:List (List UInt8)) (o:Ob),(op=26→∀ k ∈ ks,k=8) →
  opsStep op ks ws o=match namesStep ks ws o with
   | none=>none
   | some (ns,ws',o')=>(argsW op ks ws').map fun L=>(addL L ns,o')
 | [],ws,o,_=>rfl
 | k :: ks,ws,o,hop=>by
  have ih:=fun ws o=>zr11 op ks ws o (fun h j hj=>hop h j (by simp [hj]))
  rw [opsStep,namesStep]
  cases hn:isNamedB k (ws.headD []) with
  | true=>
   rw [zp11 hn]
   simp only [if_pos]
   cases hs:numStep k (ws.headD []) o with
   | none=>rfl
   | some r=>
    obtain⟨x,o1⟩:=r
    simp only
    rw [ih]
    have hz:argW op k [48]=some 0:=zero_word op k (by
     rcases of_decide_eq_true hn with h | h | h | h
     ·exact .inl h
     ·exact .inr (.inl h)
     ·exact .inr (.inr (.inl h))
     ·exact .inr (.inr (.inr h.1)))
    cases hs2:namesStep ks ws.tail o1 with
    | none=>rfl
    | some r=>
     obtain⟨ns,ws',o'⟩:=r
     simp only [Option.map_some,argsW,List.headD_cons,List.tail_cons,hz]
     cases argsW op ks ws' with
     | none=>rfl
     | some L=>simp [addL]
  | false=>
   rw [zq11 hn (fun h=>hop h k (by simp))]
   simp only [Bool.false_eq_true,if_false]
   cases ha:argW op k (ws.headD []) with
   | none=>
    simp only [Option.map_none]
    cases hs2:namesStep ks ws.tail o with
    | none=>rfl
    | some r=>
     obtain⟨ns,ws',o'⟩:=r
     simp only [Option.map_some,argsW,List.headD_cons,ha,Option.map_none]
   | some x=>
    simp only [Option.map_some]
    rw [ih]
    cases hs2:namesStep ks ws.tail o with
    | none=>rfl
    | some r=>
     obtain⟨ns,ws',o'⟩:=r
     simp only [Option.map_some,argsW,List.headD_cons,List.tail_cons,ha]
     cases argsW op ks ws' with
     | none=>rfl
     | some L=>simp [addL]
end Go.Proofs.YtlmbiafloiompaaGreatDoor

namespace Go.Proofs.YtlmbiafloiompaaGreatDoor
open Go Go.RowKit Go.WideShapes Go.ChangeShapes
set_option linter.unusedVariables false
set_option linter.unusedSimpArgs false
theorem atois:((List.range 1024).all fun n=>(match Lib.atoiAll (Lib.itoa (n:Int)) with | .ok v=>v == (n:Int) | _=>false) && rnumOf (Lib.itoa (n:Int)) == (n:Int))=true:=by decide +kernel
theorem atoi_at {n:Int} (h0:0≤n) (h1:n≤1023):Lib.atoiAll (Lib.itoa n)=.ok n∧rnumOf (Lib.itoa n)=n:=by
 obtain⟨N,rfl⟩:=Int.eq_ofNat_of_zero_le h0
 have h:=List.all_eq_true.1 atois N (List.mem_range.2 (by omega))
 rw [Bool.and_eq_true] at h
 refine⟨?_,beq_iff_eq.1 h.2⟩
 have h2:=h.1
 split at h2
 ·rename_i v hv
  rw [hv,beq_iff_eq.1 h2]
 ·cases h2
theorem zz18 (w:List UInt8) (g:Int) (hg:g≤1023) :
  numUpto w g=match Lib.atoiAll w with | .ok v=>(if 0≤v∧v≤g∧Lib.itoa v=w then some v else none) | _=>none:=by
 unfold numUpto
 by_cases h:0≤rnumOf w∧rnumOf w≤g
 ·rw [if_pos h]
  have hw:Lib.itoa (rnumOf w)=w:=by
   have h0:=h.1
   unfold rnumOf at h0 ⊢
   split
   ·rename_i hc
    rw [if_pos hc] at h0
    omega
   ·rename_i hc
    rw [if_neg hc] at h0
    split
    ·rename_i hd
     rw [if_pos hd] at h0
     split
     ·rename_i he
      exact he
     ·rename_i he
      rw [if_neg he] at h0
      omega
    ·rename_i hd
     rw [if_neg hd] at h0
     omega
  have ha:=(atoi_at h.1 (by omega)).1
  rw [hw] at ha
  rw [ha]
  simp only
  rw [if_pos ⟨h.1,h.2,hw⟩]
 ·rw [if_neg h]
  split
  ·rename_i v hv
   split
   ·rename_i hc
    exfalso
    have:=(atoi_at hc.1 (by omega)).2
    rw [hc.2.2] at this
    rw [this] at h
    exact h ⟨hc.1,hc.2.1⟩
   ·rfl
  ·rfl
theorem zk11:∀ {w:List UInt8},slashAt w=none→Lib.indexByte w 47 = -1
 | [],_=>rfl
 | c :: r,h=>by
  rw [slashAt] at h
  split at h
  ·cases h
  ·rename_i hc
   have hr:slashAt r=none:=by
    cases hs:slashAt r with
    | none=>rfl
    | some p=>rw [hs] at h;cases h
   rw [Lib.indexByte,if_neg (by simpa using hc),zk11 hr]
   rfl
theorem zj7:∀ {w a d:List UInt8},slashAt w=some (a,d)→Lib.indexByte w 47=(a.length:Int)∧w=a ++ 47 :: d
 | [],_,_,h=>by cases h
 | c :: r,a,d,h=>by
  rw [slashAt] at h
  split at h
  ·rename_i hc
   injection h with h
   injection h with h1 h2
   subst h1 h2 hc
   exact⟨by simp [Lib.indexByte],rfl⟩
  ·rename_i hc
   cases hs:slashAt r with
   | none=>rw [hs] at h;cases h
   | some p=>
    obtain⟨a',d'⟩:=p
    rw [hs] at h
    injection h with h
    injection h with h1 h2
    subst h1 h2
    obtain⟨g1,g2⟩:=zj7 hs
    rw [Lib.indexByte,if_neg (by simpa using hc),g1]
    refine⟨?_,by rw [g2];rfl⟩
    rw [if_neg (by
     intro e
     have:=beq_iff_eq.1 e
     omega)]
    simp
theorem zp16 {w:List UInt8} (h:slashAt w=none):Lib.cut w [47]=(w,[],false):=by
 unfold Lib.cut
 rw [Lib.index_one,zk11 h,if_neg (by decide)]
theorem zq16 {w a d:List UInt8} (h:slashAt w=some (a,d)):Lib.cut w [47]=(a,d,true):=by
 obtain⟨h1,h2⟩:=zj7 h
 unfold Lib.cut
 rw [Lib.index_one,h1,if_pos (by omega)]
 subst h2
 simp
theorem zj15 (kind:Int) (s:ByteArray) (w:World) :
  Calls Tryz.prog 81 #[.int .i64 kind,.string s] w fun e w'=>e=.returned (.bool (isNamedB kind s.data.toList))∧w=w':=by
 by_cases h3:kind=3
 ·subst h3
  go_enter Tryz.func81,Tryz.ntmps81
  go_wp2
  go_ret
  exact⟨rfl,rfl⟩
 by_cases h4:kind=4
 ·subst h4
  go_enter Tryz.func81,Tryz.ntmps81
  go_wp2
  go_ret
  exact⟨rfl,rfl⟩
 by_cases h7:kind=7
 ·subst h7
  go_enter Tryz.func81,Tryz.ntmps81
  go_wp2
  go_ret
  exact⟨rfl,rfl⟩
 by_cases h8:kind=8
 ·subst h8
  by_cases hs:s=⟨#[45]⟩
  ·subst hs
   go_enter Tryz.func81,Tryz.ntmps81
   go_wp2
   go_ret
   exact⟨rfl,rfl⟩
  ·have hX:Hid (isNamedB 8 s.data.toList=true):=hD (decide_eq_true (.inr (.inr (.inr ⟨rfl,fun e=>hs (ByteArray.ext (Array.ext' e))⟩))))
   have e45:(⟨#[45]⟩:ByteArray).toList=[45]:=by rw [ByteArray.toList_eq]
   have hn:(s.toList == [45])=false:=by rw [← e45];exact zt2 hs
   have hn2:(s.toList != [45])=true:=by rw [bne,hn];rfl
   have hn3:(s.toList == (⟨#[45]⟩:ByteArray).toList)=false:=zt2 hs
   have hn4:(s.toList != (⟨#[45]⟩:ByteArray).toList)=true:=by rw [bne,hn3];rfl
   clear hs e45
   go_enter Tryz.func81,Tryz.ntmps81
   go_wp2
   go_ret
   exact⟨by rw [hX.out];rfl,rfl⟩
 have hX:Hid (isNamedB kind s.data.toList=false):=hD (decide_eq_false (by
  rintro(h | h | h | ⟨h,_⟩)
  ·exact h3 h
  ·exact h4 h
  ·exact h7 h
  ·exact h8 h))
 have e3:(kind == 3)=false:=by simpa using h3
 have e4:(kind == 4)=false:=by simpa using h4
 have e7:(kind == 7)=false:=by simpa using h7
 have e8:(kind == 8)=false:=by simpa using h8
 clear h3 h4 h7 h8
 go_enter Tryz.func81,Tryz.ntmps81
 go_wp2
 go_ret
 exact⟨by rw [hX.out];rfl,rfl⟩
def OptNum (w:World) (r:Option Int) (e:Ending) (w':World):Prop:=e=.returned (.tuple #[.int .i64 (r.getD 0),.bool r.isSome])∧Below w.heap.size w w'
set_option maxHeartbeats 1000000 in
theorem ze5 (s:ByteArray) (hs:s.size≤1048576) (g:Int) (hg:g≤1023) (w:World) {B:Nat} (hp:LaidC B w) :
  Calls Tryz.prog 105 #[.string s,.int .i64 g] w (OptNum w (numUpto s.data.toList g)):=by
 unfold OptNum
 have HX:=hD (zz18 s.data.toList g hg)
 have HP:=hD hp
 by_cases hok:∃ v,Lib.atoiAll s.data.toList=.ok v
 case neg=>
  have hbad:∀ v,Lib.atoiAll s.data.toList≠.ok v:=fun v h=>hok ⟨v,h⟩
  have HY:Hid (numUpto s.data.toList g=none):=hD (by
   rw [HX.out]
   split
   ·rename_i v hv
    exact absurd hv (hbad v)
   ·rfl)
  have HA:=hD (fun w h=>zt8 s (by omega) hbad w (B:=B) h)
  clear hok hbad hp
  go_enter Tryz.func105,Tryz.ntmps105
  go_wp2_with (go_at_call 133;refine(HA.out _ HP.out).mono ?_;rintro e w2 ⟨v,N,rfl,hb⟩;have HB:=hD hb;clear hb)
  go_ret2
  exact⟨by rw [HY.out];rfl,HB.out⟩
 case pos=>
 obtain⟨v,hv⟩:=hok
 have HA:=hD (fun w=>Tryz.strconv_Atoi_ok s (by omega) v hv w)
 have HY:Hid (numUpto s.data.toList g=if 0≤v∧v≤g∧Lib.itoa v=s.data.toList then some v else none):=hD (by rw [HX.out,hv])
 clear hv hp
 by_cases h0:v<0
 ·have HZ:Hid (numUpto s.data.toList g=none):=hD (by rw [HY.out,if_neg (fun e=>by omega)])
  go_enter Tryz.func105,Tryz.ntmps105
  go_wp2_with (go_at_call 133;refine(HA.out _).mono ?_;rintro e w2 ⟨rfl,hw2⟩;have HB:=hD (zq2 hw2);clear hw2)
  go_ret2
  exact⟨by rw [HZ.out];rfl,HB.out⟩
 by_cases h1:g<v
 ·have HZ:Hid (numUpto s.data.toList g=none):=hD (by rw [HY.out,if_neg (fun e=>by omega)])
  go_enter Tryz.func105,Tryz.ntmps105
  go_wp2_with (go_at_call 133;refine(HA.out _).mono ?_;rintro e w2 ⟨rfl,hw2⟩;have HB:=hD (zq2 hw2);clear hw2)
  go_ret2
  exact⟨by rw [HZ.out];rfl,HB.out⟩
 have HI:=hD (fun w h=>za6 v (by omega) (by omega) w (B:=B) h)
 by_cases he:Lib.itoa v=s.data.toList
 ·have HZ:Hid (numUpto s.data.toList g=some v):=hD (by rw [HY.out,if_pos ⟨by omega,by omega,he⟩])
  have e1:bs (Lib.itoa v)=s:=by rw [he,str_bs]
  rw [e1] at HI
  clear he e1
  go_enter Tryz.func105,Tryz.ntmps105
  go_wp2_with (first
   | (go_at_call 133;refine(HA.out _).mono ?_;rintro e w2 ⟨rfl,hw2⟩;have HB:=hD (zq2 hw2);clear hw2)
   | (go_at_call 134;refine(HI.out _ (HP.out.up HB.out)).mono ?_;rintro e w3 ⟨rfl,hb3⟩;have HB3:=hD (HB.out.trans (hb3.mono HB.out.size));clear hb3))
  go_ret2
  exact⟨by rw [HZ.out];rfl,HB3.out⟩
 ·have HZ:Hid (numUpto s.data.toList g=none):=hD (by rw [HY.out,if_neg (fun e=>he e.2.2)])
  have hn:((bs (Lib.itoa v)).toList == s.toList)=false:=zt2 (fun e=>he (by rw [← zw3 (Lib.itoa v),e]))
  have hn2:((bs (Lib.itoa v)).toList != s.toList)=true:=by rw [bne,hn];rfl
  generalize bs (Lib.itoa v)=t at HI hn hn2
  clear he
  go_enter Tryz.func105,Tryz.ntmps105
  go_wp2_with (first
   | (go_at_call 133;refine(HA.out _).mono ?_;rintro e w2 ⟨rfl,hw2⟩;have HB:=hD (zq2 hw2);clear hw2)
   | (go_at_call 134;refine(HI.out _ (HP.out.up HB.out)).mono ?_;rintro e w3 ⟨rfl,hb3⟩;have HB3:=hD (HB.out.trans (hb3.mono HB.out.size));clear hb3))
  go_ret2
  exact⟨by rw [HZ.out];rfl,HB3.out⟩
theorem label_yes {w:List UInt8} (h:Lib.hasPrefix w [64]=true):labelOf w=numUpto (Lib.trimPrefix w [64]) 1023:=by
 unfold Lib.trimPrefix
 rw [if_pos h]
 cases w with
 | nil=>cases h
 | cons c d=>
  have hc:c=64:=by
   unfold Lib.hasPrefix at h
   simp [List.isPrefixOf] at h
   exact h.symm
  subst hc
  rfl
theorem label_no {w:List UInt8} (h:Lib.hasPrefix w [64]=false):labelOf w=none:=by
 cases w with
 | nil=>rfl
 | cons c d=>
  have hc:c≠64:=fun e=>by
   subst e
   unfold Lib.hasPrefix at h
   simp [List.isPrefixOf] at h
  unfold labelOf
  split
  ·rename_i d' he
   injection he with he _
   exact absurd he hc
  ·rfl
theorem zj6 (s:ByteArray) (hs:s.size≤1048576) (w:World) {B:Nat} (hp:LaidC B w) :
  Calls Tryz.prog 77 #[.string s] w (OptNum w (labelOf s.data.toList)):=by
 unfold OptNum
 have HC:=hD (fun w=>Tryz.strings_CutPrefix s ⟨#[64]⟩ w)
 cases h:Lib.hasPrefix s.data.toList [64] with
 | false=>
  have HX:=hD (label_no h)
  have h':Lib.hasPrefix s.data.toList (⟨#[64]⟩:ByteArray).data.toList=false:=h
  rw [h'] at HC
  clear h h'
  go_enter Tryz.func77,Tryz.ntmps77
  go_wp2_with (go_at_call 36;refine(HC.out _).mono ?_;rintro e w' ⟨rfl,rfl⟩)
  go_ret2
  exact⟨by rw [HX.out];rfl,Below.refl _ _⟩
 | true=>
  have HX:=hD (label_yes h)
  have h':Lib.hasPrefix s.data.toList (⟨#[64]⟩:ByteArray).data.toList=true:=h
  have ht:(Lib.trimPrefix s.data.toList [64]).length≤1048576:=by
   unfold Lib.trimPrefix
   have h1:s.data.toList.length=s.size:=by rw [Array.length_toList];rfl
   have h2:(s.data.toList.drop [(64:UInt8)].length).length≤s.data.toList.length:=by rw [List.length_drop];omega
   split
   ·exact Nat.le_trans h2 (by omega)
   ·omega
  rw [h'] at HC
  have HC2:Hid (∀ w:World,Calls Tryz.prog 36 #[.string s,.string ⟨#[64]⟩] w fun e w'=>e=.returned (.tuple #[.string (bs (Lib.trimPrefix s.data.toList [64])),.bool true])∧w'=w):=HC
  have HR:=hD (ze5 (bs (Lib.trimPrefix s.data.toList [64])) (by rw [zx3];exact ht) 1023 (by decide) w hp)
  unfold OptNum at HR
  rw [zw3,← HX.out] at HR
  generalize labelOf s.data.toList=r at HR
  generalize bs (Lib.trimPrefix s.data.toList [64])=t at HR HC2
  clear h h' ht HC HX
  go_enter Tryz.func77,Tryz.ntmps77
  go_wp2_with (first
   | (go_at_call 36;refine(HC2.out _).mono ?_;rintro e w' ⟨rfl,rfl⟩)
   | (go_at_call 105;refine HR.out.mono ?_;rintro e w3 ⟨rfl,hb3⟩;have HB3:=hD hb3;clear hb3))
  go_ret2
  exact⟨rfl,HB3.out⟩
def OptFun (w:World) (r:Option (ByteArray × Int)) (e:Ending) (w':World):Prop:=e=.returned (.tuple #[.agg #[.string (r.getD (⟨#[]⟩,0)).1,.int .i64 (r.getD (⟨#[]⟩,0)).2],.bool r.isSome])∧Below w.heap.size w w'
theorem LaidC.drewN {B:Nat} {w:World} (h:LaidC B w) (n:Nat):LaidC B (w.drewN n):=h.up ⟨rfl,rfl,rfl,Nat.le_refl _,fun _ _=>rfl⟩
theorem zb5 {P:Program} {fn:Func} {Q:Ending→World→Prop} {T:Array Value} {w2:World} {G:Nat} {t:TypeId} {z0 z1 a b x:Value} (hb:Box w2 G t #[z0,z1])
  (hres:∀ W:World,W.cell? ⟨G,0,none⟩=some a→W.cell? ⟨G,1,none⟩=some b→(results fn T).run P W=.ok (.tuple #[.agg #[a,b],x]) W)
  (hQ:∀ W:World,Box W G t #[a,b]→Fr (fun k=>k=G) w2 W→Q (.returned (.tuple #[.agg #[a,b],x])) W) :
  bodyPost P fn Q .ret { tmps:=T,defers:=[] } ((w2.setCell ⟨G,0,none⟩ a).setCell ⟨G,1,none⟩ b):=by
 have h4:Box ((w2.setCell ⟨G,0,none⟩ a).setCell ⟨G,1,none⟩ b) G t #[a,b]:=by
  have:=(hb.set_ 0 a).set_ 1 b
  simpa using this
 have hf:Fr (fun k=>k=G) w2 ((w2.setCell ⟨G,0,none⟩ a).setCell ⟨G,1,none⟩ b):=
  ((Fr.refl (fun b=>b=G) w2).setCell (p:=⟨G,0,none⟩) (.inl rfl) _).setCell (p:=⟨G,1,none⟩) (.inl rfl) _
 exact bodyPost_ret (hres _ (h4.cell 0) (h4.cell 1)) rfl (hQ _ h4 hf)
theorem funOf_cut (w:List UInt8) (g:Int):funOf w g=match numUpto (Lib.cut w [47]).2.1 8 with
  | none=>none
  | some n=>if g≤n∧nameOk (bs (Lib.cut w [47]).1)=true then some (bs (Lib.cut w [47]).1,n) else none:=by
 unfold funOf
 cases h:slashAt w with
 | none=>
  rw [zp16 h]
  rfl
 | some p=>
  obtain⟨a,d⟩:=p
  rw [zq16 h]
  try rfl
theorem cut_len (w:List UInt8):(Lib.cut w [47]).1.length≤w.length∧(Lib.cut w [47]).2.1.length≤w.length:=by
 cases h:slashAt w with
 | none=>
  rw [zp16 h]
  exact⟨Nat.le_refl _,Nat.zero_le _⟩
 | some p=>
  obtain⟨a,d⟩:=p
  rw [zq16 h]
  have:=(zj7 h).2
  rw [this,List.length_append,List.length_cons]
  constructor <;> simp <;> omega
set_option maxHeartbeats 2000000 in
theorem zo5 (s:ByteArray) (hs:s.size≤1048576) (g:Int) (w:World) {B:Nat} (hp:LaidC B w) :
  Calls Tryz.prog 74 #[.string s,.int .i64 g] w (OptFun w (funOf s.data.toList g)):=by
 unfold OptFun
 obtain⟨ml,hml⟩:=hp.len
 have hb0:=zc w (.cells #[.string ⟨#[]⟩,.int .i64 0] 61)
 have hsz:s.data.toList.length=s.size:=by rw [Array.length_toList];rfl
 have hcl:=cut_len s.data.toList
 have HF:=hD (funOf_cut s.data.toList g)
 have HC:=Tryz.strings_Cut s ⟨#[47]⟩ ml (w.alloc (.cells #[.string ⟨#[]⟩,.int .i64 0] 61)) (by omega) ((hb0.cell (p:=⟨1,0,none⟩) (Nat.lt_of_lt_of_le hp.low.2.2.2 hp.size)).trans hml)
 have HC2:Hid (Calls Tryz.prog 104 #[.string s,.string ⟨#[47]⟩] (w.alloc (.cells #[.string ⟨#[]⟩,.int .i64 0] 61)) fun e w'=>e=.returned (.tuple #[.string (bs (Lib.cut s.data.toList [47]).1),.string (bs (Lib.cut s.data.toList [47]).2.1),.bool (Lib.cut s.data.toList [47]).2.2])∧∃ n,w'=(w.alloc (.cells #[.string ⟨#[]⟩,.int .i64 0] 61)).drewN n):=hD HC
 have HB0:=hD hb0
 have HP0:=hD (hp.up hb0)
 have HBX:=hD (Box.new w 61 #[.string ⟨#[]⟩,.int .i64 0])
 have h1:(bs (Lib.cut s.data.toList [47]).1).size≤maxLen:=by rw [zx3];unfold maxLen;omega
 have h2:(bs (Lib.cut s.data.toList [47]).2.1).size≤1048576:=by rw [zx3];omega
 have HN:=hD (fun w h=>ze5 (bs (Lib.cut s.data.toList [47]).2.1) h2 8 (by decide) w (B:=B) h)
 unfold OptNum at HN
 rw [zw3] at HN
 have HT:=hD (fun w=>ze10 (bs (Lib.cut s.data.toList [47]).1) w h1)
 generalize funOf s.data.toList g=r at HF
 generalize numUpto (Lib.cut s.data.toList [47]).2.1 8=rn at HF HN
 generalize bs (Lib.cut s.data.toList [47]).1=ta at HF HC2 HT
 generalize bs (Lib.cut s.data.toList [47]).2.1=td at HC2 HN
 generalize (Lib.cut s.data.toList [47]).2.2=tb at HC2
 clear HC hb0 hsz hcl h1 h2 hml hp
 cases rn with
 | none=>
  have HX:Hid (r=none):=HF
  go_enter Tryz.func74,Tryz.ntmps74
  go_upto_region 2 with(go_at_call 104;refine HC2.out.mono ?_;rintro e w2 ⟨rfl,n2,rfl⟩)
  go_upto_region 3 with(go_at_call 105;refine(HN.out _ (HP0.out.drewN n2)).mono ?_;rintro e w3 ⟨rfl,hb3⟩;have HB3:=hD ((zx HB0.out n2).trans (hb3.mono HB0.out.size));have hx3:=(HBX.out.drewN n2).below hb3 HBX.out.lt;have f0:=hx3.cell 0;have f1:=hx3.cell 1;have z0:=hx3.frozen 0;have z1:=hx3.frozen 1;have HX3:=hD hx3;clear hb3 hx3)
  go_wp2_with (go_at_call 85;refine(HT.out _).mono ?_;rintro e w4 ⟨rfl,rfl⟩)
  refine zb5 (x:=.bool false) HX3.out (by intro W c0 c1;simp [results,Tryz.results74,go_sem,c0,c1]) ?_
  intro W hW hF
  exact⟨by rw [HX.out];rfl,HB3.out.trans (hF.below HB3.out.size (fun k hk=>by omega))⟩
 | some n=>
 have HF2:Hid (r=if g≤n∧nameOk ta=true then some (ta,n) else none):=HF
 by_cases h0:n<g
 ·have HX:Hid (r=none):=hD (by rw [HF2.out,if_neg (fun e=>by omega)])
  go_enter Tryz.func74,Tryz.ntmps74
  go_upto_region 2 with(go_at_call 104;refine HC2.out.mono ?_;rintro e w2 ⟨rfl,n2,rfl⟩)
  go_upto_region 3 with(go_at_call 105;refine(HN.out _ (HP0.out.drewN n2)).mono ?_;rintro e w3 ⟨rfl,hb3⟩;have HB3:=hD ((zx HB0.out n2).trans (hb3.mono HB0.out.size));have hx3:=(HBX.out.drewN n2).below hb3 HBX.out.lt;have f0:=hx3.cell 0;have f1:=hx3.cell 1;have z0:=hx3.frozen 0;have z1:=hx3.frozen 1;have HX3:=hD hx3;clear hb3 hx3)
  go_wp2_with (go_at_call 85;refine(HT.out _).mono ?_;rintro e w4 ⟨rfl,rfl⟩)
  refine zb5 (x:=.bool false) HX3.out (by intro W c0 c1;simp [results,Tryz.results74,go_sem,c0,c1]) ?_
  intro W hW hF
  exact⟨by rw [HX.out];rfl,HB3.out.trans (hF.below HB3.out.size (fun k hk=>by omega))⟩
 cases hn:nameOk ta with
 | false=>
  have HX:Hid (r=none):=hD (by rw [HF2.out,hn,if_neg (by simp)])
  rw [hn] at HT
  clear hn
  go_enter Tryz.func74,Tryz.ntmps74
  go_upto_region 2 with(go_at_call 104;refine HC2.out.mono ?_;rintro e w2 ⟨rfl,n2,rfl⟩)
  go_upto_region 3 with(go_at_call 105;refine(HN.out _ (HP0.out.drewN n2)).mono ?_;rintro e w3 ⟨rfl,hb3⟩;have HB3:=hD ((zx HB0.out n2).trans (hb3.mono HB0.out.size));have hx3:=(HBX.out.drewN n2).below hb3 HBX.out.lt;have f0:=hx3.cell 0;have f1:=hx3.cell 1;have z0:=hx3.frozen 0;have z1:=hx3.frozen 1;have HX3:=hD hx3;clear hb3 hx3)
  go_wp2_with (go_at_call 85;refine(HT.out _).mono ?_;rintro e w4 ⟨rfl,rfl⟩)
  refine zb5 (x:=.bool false) HX3.out (by intro W c0 c1;simp [results,Tryz.results74,go_sem,c0,c1]) ?_
  intro W hW hF
  exact⟨by rw [HX.out];rfl,HB3.out.trans (hF.below HB3.out.size (fun k hk=>by omega))⟩
 | true=>
  have HX:Hid (r=some (ta,n)):=hD (by rw [HF2.out,hn,if_pos ⟨by omega,rfl⟩])
  rw [hn] at HT
  clear hn
  go_enter Tryz.func74,Tryz.ntmps74
  go_upto_region 2 with(go_at_call 104;refine HC2.out.mono ?_;rintro e w2 ⟨rfl,n2,rfl⟩)
  go_upto_region 3 with(go_at_call 105;refine(HN.out _ (HP0.out.drewN n2)).mono ?_;rintro e w3 ⟨rfl,hb3⟩;have HB3:=hD ((zx HB0.out n2).trans (hb3.mono HB0.out.size));have hx3:=(HBX.out.drewN n2).below hb3 HBX.out.lt;have f0:=hx3.cell 0;have f1:=hx3.cell 1;have z0:=hx3.frozen 0;have z1:=hx3.frozen 1;have HX3:=hD hx3;clear hb3 hx3)
  go_wp2_with (go_at_call 85;refine(HT.out _).mono ?_;rintro e w4 ⟨rfl,rfl⟩)
  refine zb5 (x:=.bool true) HX3.out (by intro W c0 c1;simp [results,Tryz.results74,go_sem,c0,c1]) ?_
  intro W hW hF
  exact⟨by rw [HX.out];rfl,HB3.out.trans (hF.below HB3.out.size (fun k hk=>by omega))⟩
end Go.Proofs.YtlmbiafloiompaaGreatDoor

namespace Go.Proofs.YtlmbiafloiompaaGreatDoor
open Go Go.RowKit Go.WideShapes Go.ChangeShapes Go.Maps
set_option linter.unusedVariables false
set_option linter.unusedSimpArgs false
theorem imInt:Tryz.prog.underlying 3=some (.int .i64):=by kernel_rfl
theorem imMap:Tryz.prog.underlying 76=some (.map 3 3):=by kernel_rfl
theorem imZero (w:World):(zeroValue 3).run Tryz.prog w=.ok (.int .i64 0) w:=by kernel_rfl
def IMap (w:World) (M n:Nat) (f:Int→Option Int):Prop:=
 ∃ D:DataW Unit,w.ownsMap Tryz.prog 3 (plainElem Tryz.prog 3) M n D∧IsMap D∧∀ k z,D.atKey (.int .i64 k) z=match f k with | none=>z | some v=>.lit (.int .i64 v)
theorem IMap.lt {w:World} {M n:Nat} {f:Int→Option Int} (h:IMap w M n f):M<w.heap.size:=by
 obtain⟨D,h1,_⟩:=h
 exact h1.lt
theorem IMap.new (w:World):IMap (w.alloc (.map #[] 0)) w.heap.size 0 (fun _=>none):=
 ⟨_,World.ownsMap_made w _ _ _,isMap_empty,fun k z=>rfl⟩
theorem IMap.fr {S:Nat→Prop} {w w':World} {M n:Nat} {f:Int→Option Int} (h:IMap w M n f) (hf:Fr S w w') (hM:¬ S M):IMap w' M n f:=by
 obtain⟨D,⟨es,cl,hm,F1,F2,F3⟩,h2,h3⟩:=h
 exact⟨D,⟨es,cl,(hf.block M (Array.getElem?_eq_some_iff.1 hm).1 hM).trans hm,F1,F2,F3⟩,h2,h3⟩
theorem IMap.below {w w':World} {M n:Nat} {f:Int→Option Int} (h:IMap w M n f) (hb:Below w.heap.size w w'):IMap w' M n f:=h.fr (S:=fun _=>False) (Fr.of_below hb) (fun x=>x)
theorem IMap.ne_box {w:World} {M n:Nat} {f:Int→Option Int} (h:IMap w M n f) {g:Nat} {t:TypeId} {cs:Array Value} (hb:Box w g t cs):M≠g:=by
 rintro rfl
 obtain⟨D,⟨es,cl,hm,_⟩,_⟩:=h
 unfold Box at hb
 rw [hb] at hm
 simp at hm
theorem IMap.ne_own {w:World} {M n:Nat} {f:Int→Option Int} (h:IMap w M n f) {base:Nat} {e:TypeId} {size m:Nat} {v:Value} {xs:List Value} (ho:w.ownsRow base e size v m xs):∀ k,v.ownBlock=some k→k≠M:=by
 rintro k hk rfl
 obtain⟨D,⟨es,cl,hm,_⟩,_⟩:=h
 rcases ho.2 with⟨rfl,_⟩ | ⟨g,cap,cur,rfl,_,hh,_⟩
 ·simp [Value.ownBlock] at hk
 ·have:g=k:=by simpa [Value.ownBlock] using hk
  subst this
  rw [hh] at hm
  simp at hm
theorem IMap.look2 {w:World} {M n:Nat} {f:Int→Option Int} (h:IMap w M n f) (k:Int) (hk:(Lit.int .i64 k).wf=true) :
  (Instr.lookup 76 (.map (some M)) (.int .i64 k) true).run Tryz.prog w=.ok (.tuple #[.int .i64 ((f k).getD 0),.bool (f k).isSome]) w:=by
 obtain⟨D,⟨es,cl,hm,F,_,rfl⟩,_,h3⟩:=h
 rcases Maps.fit_look true (int_keyed imInt) imMap (imZero w) hm F (keyOf_int_mk imInt hk) with⟨hrun,_,hat⟩ | ⟨e0,y,_,_,hrun,hR,hat,_⟩
 ·have hf:f k=none:=by
   cases hf:f k with
   | none=>rfl
   | some v=>
    have:=(hat .nil).symm.trans (h3 k .nil)
    rw [hf] at this
    cases this
  rw [hrun,hf]
  rfl
 ·have hy:=plainElem_int_inv imInt hR
  obtain⟨a,ha,rfl,_⟩:=hy
  have hf:f k=some a:=by
   have h1:=(hat .nil).symm.trans (h3 k .nil)
   cases hf:f k with
   | none=>rw [hf] at h1;cases h1
   | some v=>
    rw [hf] at h1
    have h2:a=v:=by simpa using h1
    rw [h2]
  rw [hrun,ha,hf]
  rfl
theorem IMap.store {w:World} {M n:Nat} {f:Int→Option Int} (h:IMap w M n f) (k v:Int) (hk:(Lit.int .i64 k).wf=true) (hv:(Lit.int .i64 v).wf=true) (hn:n<maxLen) :
  ∃ w',(Instr.mapUpdate 76 (.map (some M)) (.int .i64 k) (.int .i64 v)).run Tryz.prog w=.ok () w'∧IMap w' M (n+1) (fun j=>if j=k then some v else f j)∧Fr (fun b=>b=M) w w':=by
 obtain⟨D,h1,h2,h3⟩:=h
 obtain⟨w',hrun,r1,r2⟩:=h1.update (int_keyed imInt) imMap hn (keyOf_int_mk imInt hk) (plainElem_int imInt hv)
 refine⟨w',hrun,⟨_,r1,h2.put _ _,fun j z=>?_⟩,Fr.of_grown r2 (fun _ _ e=>(Option.some.inj e).symm)⟩
 by_cases hj:j=k
 ·subst hj
  rw [atKey_put_same h2 (show WideAt.IsKeyLit (Lit.int .i64 j) from trivial)]
  simp
 ·rw [atKey_put_other (by intro e;injection e with _ e;exact hj e),h3 j z]
  simp [hj]
theorem wfI {k:Int} (h0:-9223372036854775808≤k) (h1:k≤9223372036854775807):(Lit.int .i64 k).wf=true:=by
 simp [Lit.wf,IntKind.min,IntKind.max,IntKind.signed,IntKind.bits]
 omega
end Go.Proofs.YtlmbiafloiompaaGreatDoor
