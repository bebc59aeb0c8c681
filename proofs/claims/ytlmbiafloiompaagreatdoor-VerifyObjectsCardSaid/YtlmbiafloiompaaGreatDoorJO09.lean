/-
  13 texts in one (VRow VerM VerP VerA VerB VerC VerD VerE VerF VerG VerH VerN VerO). Conditions: those of each theorem.
-/
import Derived.Test.YtlmbiafloiompaaGreatDoorCards
import Derived.Test.YtlmbiafloiompaaGreatDoorTie
import Derived.Test.YtlmbiafloiompaaGreatDoorJO08
import Derived.Test.YtlmbiafloiompaaGreatDoorChecked
import Derived.Lib.LaidTab
import Derived.LaidSub
import Derived.LaidLaws
import Derived.MakeChecks
import Derived.LaidMore
import Derived.Deep.DeepHandedRow
import Derived.Test.YtlmbiafloiompaaGreatDoorJO01
import Derived.WalkKit
import Derived.BigQuiet
import Derived.Laws.BitsAllLaws
import Derived.Deep.MidRow
set_option linter.unusedVariables false
set_option linter.unusedSimpArgs false
namespace Go.Proofs.YtlmbiafloiompaaGreatDoor
open Go.ChangeShapes Go.WideShapes Go.ChangeAt Go.RowKit
theorem gPow:Tryz.prog.globalNamed "internal/strconv.uint64pow10" = some 6:=by kernel_rfl
theorem gPowType:(Tryz.prog.globals[6]?).map (·.type)=some 278:=by kernel_rfl
theorem cellsPow:Tryz.prog.cellsOf 278=20:=by kernel_rfl
theorem cellsWord:Tryz.prog.cellsOf 72=1:=by kernel_rfl
theorem gNam:Tryz.prog.globalNamed "resolvent/code.names" = some 0:=by kernel_rfl
theorem gNamType:(Tryz.prog.globals[0]?).map (·.type)=some 184:=by kernel_rfl
theorem cellsNam:Tryz.prog.cellsOf 184=27:=by kernel_rfl
theorem cellsStr:Tryz.prog.cellsOf 9=1:=by kernel_rfl
theorem gSyn:Tryz.prog.globalNamed "strconv.ErrSyntax" = some 2:=by kernel_rfl
theorem gSynType:(Tryz.prog.globals[2]?).map (·.type)=some 197:=by kernel_rfl
theorem gRan:Tryz.prog.globalNamed "strconv.ErrRange" = some 3:=by kernel_rfl
theorem gRanType:(Tryz.prog.globals[3]?).map (·.type)=some 197:=by kernel_rfl
theorem pow_of {W:World} (h:laidMetH Tryz.prog Rows.verifyCutsRow.laid W):Lib.TabIs Tryz.prog W "internal/strconv.uint64pow10" .u64 Lib.pow10Tab:=by
 have h1:=laidMetH.filter (fun x=>x.1 == "internal/strconv.uint64pow10") h
 have e:Rows.verifyCutsRow.laid.filter (fun x=>x.1 == "internal/strconv.uint64pow10")=[("internal/strconv.uint64pow10",Lib.tabData .u64 Lib.pow10Tab)]:=by kernel_rfl
 rw [e,MakeChecks.laidMetH_plain _ _ _ (by kernel_rfl)] at h1
 exact Lib.tabIs_of_head (rest:=[]) gPow gPowType Tryz.underlying278 Tryz.underlying72 cellsWord cellsPow h1
theorem zi6 {W:World} {name nm:String} {d:DataW Unit} {rest:List (String × DataW Unit)} {g:Nat} (hg:Tryz.prog.globalNamed name=some g) (hty:(Tryz.prog.globals[g]?).map (·.type)=some 197)
  (h:laidMet Tryz.prog ((name,.iface nm d) :: rest) W):∃ te pe,W.cell? ⟨g,0,none⟩=some (.iface te pe):=by
 obtain⟨ps,⟨g',t',cs,fuel,p,q,hg',ht',hvar,hd,_,_⟩,_⟩:=h
 obtain rfl:=Option.some.inj (hg.symm.trans hg')
 obtain rfl:=Option.some.inj (hty.symm.trans ht')
 obtain⟨_,u,v,hcs,_,_⟩:=iface_of_trod Tryz.underlying197 hd
 refine⟨u,v,?_⟩
 have:=World.var?_cell hg hvar 0
 rw [this]
 have e:cs=#[.iface u v]:=by
  cases cs
  simp_all
 rw [e]
 rfl
theorem syn_of {W:World} (h:laidMetH Tryz.prog Rows.verifyCutsRow.laid W):∃ te pe,W.cell? ⟨2,0,none⟩=some (.iface te pe):=by
 have h1:=laidMetH.filter (fun x=>x.1 == "strconv.ErrSyntax") h
 have e:Rows.verifyCutsRow.laid.filter (fun x=>x.1 == "strconv.ErrSyntax")=[("strconv.ErrSyntax",Rows.laid_strconv_ErrSyntax)]:=by kernel_rfl
 rw [e,MakeChecks.laidMetH_plain _ _ _ (by kernel_rfl)] at h1
 exact zi6 (rest:=[]) gSyn gSynType h1
theorem ran_of {W:World} (h:laidMetH Tryz.prog Rows.verifyCutsRow.laid W):∃ te pe,W.cell? ⟨3,0,none⟩=some (.iface te pe):=by
 have h1:=laidMetH.filter (fun x=>x.1 == "strconv.ErrRange") h
 have e:Rows.verifyCutsRow.laid.filter (fun x=>x.1 == "strconv.ErrRange")=[("strconv.ErrRange",Rows.laid_strconv_ErrRange)]:=by kernel_rfl
 rw [e,MakeChecks.laidMetH_plain _ _ _ (by kernel_rfl)] at h1
 exact zi6 (rest:=[]) gRan gRanType h1
theorem zv12 {H:Type} {enc:TypeId × Value→H} {P:Program} {w:World} {base:Nat} {sp:Nat→Bool} {held:Bool} {fuel:Nat} {t e:TypeId} {n:Nat} {cs:List Value} {zs:List (List UInt8)} {p:List MemPlace}
  (ht:P.underlying t=some (.array n e)) (he:P.underlying e=some .string) (hce:P.cellsOf e=1) (hct:P.cellsOf t=n)
  (h:DataW.trod enc P w base sp held fuel t cs=some (.agg (zs.map fun z=>.lit (.string z)),p)):cs=zs.map fun z=>Value.string ⟨z.toArray⟩:=by
 cases fuel with
 | zero=>simp [DataW.trod] at h
 | succ fuel=>
  simp only [DataW.trod,ht,hce,hct,Nat.mul_one] at h
  split at h
  ·rename_i hl
   obtain⟨xs,hm,hx⟩:=Option.map_eq_some_iff.1 h
   have hxs:xs.map (·.1)=zs.map fun z=>(DataW.lit (.string z):DataW H):=by
    have:=congrArg Prod.fst hx
    simpa using this
   have hxl:xs.length=n:=by simpa using Lib.mapM_length hm
   have hzl:zs.length=n:=by
    have:=congrArg List.length hxs
    simp at this
    omega
   apply List.ext_getElem?
   intro i
   by_cases hi:i<n
   ·obtain⟨b,hb,hf⟩:=Lib.mapM_at hm i i (by simp [hi])
    obtain⟨z,hc,rfl,_⟩:=DataW.trod_string he hf
    have h1:cs[i]?=some (.string z):=by
     have:=congrArg (·[0]?) hc
     simpa [List.getElem?_take,List.getElem?_drop] using this
    have h2:(xs.map (·.1))[i]?=some (DataW.lit (.string z.data.toList):DataW H):=by simp [hb]
    rw [hxs] at h2
    simp only [List.getElem?_map,Option.map_eq_some_iff,DataW.lit.injEq,Lit.string.injEq] at h2
    obtain⟨z',hz',hz''⟩:=h2
    have h3:(⟨z'.toArray⟩:ByteArray)=z:=by rw [hz'']
    rw [h1,List.getElem?_map,hz',Option.map_some,h3]
   ·rw [List.getElem?_eq_none (by omega),List.getElem?_eq_none (by simp;omega)]
  ·cases h
theorem zo18 {W:World} (h:laidMetH Tryz.prog Rows.verifyCutsRow.laid W):NamesAt W:=by
 have h1:=laidMetH.filter (fun x=>x.1 == "resolvent/code.names") h
 have e:Rows.verifyCutsRow.laid.filter (fun x=>x.1 == "resolvent/code.names")=[("resolvent/code.names",.agg (nameList.map fun z=>.lit (.string z)))]:=by kernel_rfl
 rw [e,MakeChecks.laidMetH_plain _ _ _ (by kernel_rfl)] at h1
 obtain⟨ps,⟨g',t',cs,fuel,p,q,hg',ht',hvar,hd,_,_⟩,_⟩:=h1
 obtain rfl:=Option.some.inj (gNam.symm.trans hg')
 obtain rfl:=Option.some.inj (gNamType.symm.trans ht')
 have hcs:=zv12 Tryz.underlying184 Tryz.underlying9 cellsStr cellsNam hd
 have hce:cs=namesArr:=by
  apply Array.toList_inj.1
  rw [hcs]
  unfold namesArr
  rfl
 unfold World.var? at hvar
 rw [gNam,Option.bind_some] at hvar
 split at hvar
 ·rename_i cs' t fr hx
  injection hvar with hvar
  subst hvar
  rw [hce] at hx
  exact⟨t,fr,hx⟩
 ·cases hvar
theorem laid_of {W:World} (h:laidMetH Tryz.prog Rows.verifyCutsRow.laid W) (hsh:W.ShapedOpen Tryz.prog):LaidC W.heap.size W:=by
 obtain⟨te,pe,h1⟩:=syn_of h
 obtain⟨tf,pf,h2⟩:=ran_of h
 obtain⟨m,h3⟩:=Tryz.laysM147.s1_3 W hsh
 exact⟨Lib.tabBelow_of_tabIs (pow_of h),⟨te,pe,h1⟩,⟨tf,pf,h2⟩,zo18 h,⟨m,h3⟩,⟨World.block_lt_of_cell? W _ h1,World.block_lt_of_cell? W _ h2,(zo18 h).lt,World.block_lt_of_cell? W _ h3⟩,Nat.le_refl _⟩
def firstCells:Array Value:=(Go.Pinned.utf8FirstZ.map fun z=>Value.int .u8 ((z:Nat):Int)).toArray
def layFirst:Obj→Obj
 | .cells _ t fr=>.cells firstCells t fr
 | o=>o
noncomputable def laidWorld (os:Os):World:=
 { World.doorLaid Tryz.prog 239 os with heap:=(World.doorLaid Tryz.prog 239 os).heap.modify 4 layFirst }
theorem zn16:laidOutB Tryz.prog=true:=by kernel_rfl
theorem ownTryz:ownKnob Tryz.prog.godebug=none:=by kernel_rfl
end Go.Proofs.YtlmbiafloiompaaGreatDoor

namespace Go.Proofs.YtlmbiafloiompaaGreatDoor
open Go
structure VSt where
 x:Nat
 env:Int
 y:List Int
 left:Int
 alt:Bool
 neck:Bool
deriving DecidableEq
def yZero:List Int:=List.replicate 16 0
def stZero:VSt:=⟨0,0,yZero,0,false,false⟩
def stEntry (arity:Nat):VSt:=⟨2 ^ arity - 1,-1,yZero,0,false,true⟩
def stOther (arity:Nat):VSt:={ stEntry arity with alt:=true }
structure VPl where
 here:Bool
 bad:Bool
 s:VSt
deriving DecidableEq
def plZero:VPl:=⟨false,false,stZero⟩
def mixY (a b:Int):Int:=if a=b then a else 3
def joinV (s t:VSt):VSt:={ s with x:=s.x &&& t.x,neck:=s.neck && t.neck,y:=List.zipWith mixY s.y t.y }
def fitsV (s t:VSt):Bool:=decide (s.env=t.env) && decide (s.left=t.left) && decide (s.alt=t.alt)
def comeV (p:VPl) (s:VSt):VPl:=
 if p.here=false then { p with here:=true,s:=s }
 else if fitsV p.s s=false then { p with bad:=true }
 else { p with s:=joinV p.s s }
def setV (s:VSt) (r:Int):Bool:=s.x.testBit r.toNat
def yAt (s:VSt) (k:Int):Int:=s.y.getD k.toNat 0
def mayV (s:VSt) (r:Int):Bool:=decide (r<16) || (decide (r - 16<s.env) && decide (yAt s (r - 16)=0))
def termV (s:VSt) (r:Int):Bool:=if r<16 then setV s r else decide (r - 16<s.env) && decide (yAt s (r - 16)=1)
def regV (s:VSt) (r:Int):VSt:={ s with x:=s.x ||| 2 ^ r.toNat }
def becV (s:VSt) (r:Int):VSt:=if r<16 then regV s r else { s with y:=s.y.set (r - 16).toNat 1 }
def coverV (s:VSt) (n:Int):Bool:=decide (s.x &&& (2 ^ n.toNat - 1)=2 ^ n.toNat - 1)
def arityF (o:Ob) (k:Int):Int:=(o.funs.getD k.toNat (⟨#[]⟩,0)).2
def arityP (o:Ob) (k:Int):Int:=(o.preds.getD k.toNat (⟨#[]⟩,0,0)).2.1
def entP (o:Ob) (k:Int):Int:=(o.preds.getD k.toNat (⟨#[]⟩,0,0)).2.2
def partV (op:Int):Bool:=decide (6≤op) && decide (op≤9)
def asksPart (i:Ins) (s:VSt):Bool:=
 if i.1=9 then decide (i.2.1≤s.left)
 else if s.left=0 then false
 else if i.1=6 then mayV s i.2.1
 else if i.1=7 then termV s i.2.1
 else true
def asksV (o:Ob) (ar:Int) (i:Ins) (s:VSt):Bool:=
 if s.alt≠(decide (i.1=21) || decide (i.1=22)) then false
 else if partV i.1=true then asksPart i s
 else if s.left≠0 then false
 else if i.1=1 then setV s i.2.2.1 && mayV s i.2.1
 else if i.1=2 then setV s i.2.2.1 && termV s i.2.1
 else if i.1=3 ∨ i.1=4 then setV s i.2.2.1
 else if i.1=5 then setV s i.2.1
 else if i.1=10 then mayV s i.2.1
 else if i.1=11 then termV s i.2.1
 else if i.1=15 ∨ i.1=19 then decide (s.env<0)
 else if i.1=16 then decide (0≤s.env)
 else if i.1=17 then decide (0≤s.env) && coverV s (arityP o i.2.1)
 else if i.1=18 then decide (s.env<0) && coverV s (arityP o i.2.1)
 else if i.1=20 then decide (s.env<0) && s.neck && coverV s ar
 else if i.1=23 then s.neck
 else if i.1=24 then s.neck && mayV s (16+i.2.1)
 else if i.1=25 then decide (i.2.1<s.env) && decide (yAt s i.2.1=2)
 else if i.1=26 then setV s 0
 else true
def makesV (o:Ob) (i:Ins) (s:VSt):VSt:=
 if i.1=1 then becV s i.2.1
 else if i.1=4 then { s with left:=arityF o i.2.1 }
 else if i.1=5 then { s with left:=2 }
 else if i.1=6 then { becV s i.2.1 with left:=s.left - 1 }
 else if i.1=7 ∨ i.1=8 then { s with left:=s.left - 1 }
 else if i.1=9 then { s with left:=s.left - i.2.1 }
 else if i.1=10 then regV (becV s i.2.1) i.2.2.1
 else if i.1=11 ∨ i.1=12 then regV s i.2.2.1
 else if i.1=13 then { regV s i.2.2.1 with left:=arityF o i.2.1 }
 else if i.1=14 then { regV s i.2.1 with left:=2 }
 else if i.1=15 then { s with env:=i.2.1 }
 else if i.1=16 then { s with env:=-1,y:=yZero }
 else if i.1=17 then { s with x:=0,neck:=false }
 else if i.1=21 ∨ i.1=22 then { s with alt:=false }
 else if i.1=24 then { s with y:=s.y.set i.2.1.toNat 2 }
 else s
def onV (op:Int):Bool:=!(decide (op=0) || decide (op=18) || decide (op=19) || decide (op=26))
def labsV (i:Ins):List Int:=((List.range (opsOf i.1).length).filter fun k=>decide ((opsOf i.1).getD k 0=8) && decide ((argOf i).getD k 0≠65535)).map fun k=>(argOf i).getD k 0
def bringV (P:List VPl) (n:Int) (s:VSt):List VPl:=P.modify n.toNat fun p=>comeV p s
def leadsV (stop:Int) (n:Nat) (i:Ins):Bool:=(!onV i.1 || decide ((n:Int)+1<stop)) && (labsV i).all fun t=>decide ((n:Int)<t) && decide (t<stop)
def passV (o:Ob) (ar stop:Int) (n:Nat) (P:List VPl):Option (List VPl):=
 let p:=P.getD n plZero
 let i:=o.code.getD n (0,0,0,0,0)
 if p.bad=true ∨ p.here=false ∨ asksV o ar i p.s=false ∨ leadsV stop n i=false then none
 else
  let s:=makesV o i p.s
  let Q:=if onV i.1=true then bringV P ((n:Int)+1) s else P
  some ((labsV i).foldl (fun Q t=>bringV Q t (if i.1=26 then s else stOther ar.toNat)) Q)
def ownStep (o:Ob) (n:Int) (own:Int) (k:Nat):Int:=if entP o k≤n∧(own<0 ∨ entP o own<entP o k) then(k:Int) else own
def ownV (o:Ob) (n:Int):Int:=(List.range o.preds.length).foldl (ownStep o n) (-1)
def stopV (o:Ob) (n:Int):Int:=(o.preds.filter fun p=>decide (n<p.2.2)).foldl (fun m p=>min m p.2.2) (o.code.length:Int)
def startV (o:Ob):List VPl:=o.preds.foldl (fun P p=>P.set p.2.2.toNat ⟨true,false,stEntry p.2.1.toNat⟩) (List.replicate o.code.length plZero)
def walkV (o:Ob):Nat→Nat→List VPl→List VSt→Except Nat (List VSt)
 | 0,_,_,l=>.ok l
 | f+1,n,P,l=>
  match passV o (arityP o (ownV o n)) (stopV o n) n P with
  | none=>.error n
  | some Q=>walkV o f (n+1) Q (l ++ [(P.getD n plZero).s])
structure VNd where
 cells:Int
 words:Int
 choices:Int
deriving DecidableEq
def ndZero:VNd:=⟨0,0,0⟩
def ndMax (a b:VNd):VNd:=⟨max a.cells b.cells,max a.words b.words,max a.choices b.choices⟩
def ndOwn (o:Ob) (i:Ins) (b:VNd):VNd:=
 if i.1=4 ∨ i.1=13 then { b with cells:=b.cells+1+arityF o i.2.1 }
 else if i.1=5 ∨ i.1=14 then { b with cells:=b.cells+2 }
 else if i.1=10 then { b with cells:=b.cells+1 }
 else if i.1=15 then { b with words:=b.words+3+i.2.1 }
 else if i.1=20 then { b with choices:=b.choices+1 }
 else b
def needsV (o:Ob):Nat→List VNd
 | 0=>[]
 | k+1=>
  let rest:=needsV o k
  let n:=o.code.length - (k+1)
  let i:=o.code.getD n (0,0,0,0,0)
  let behind:=if i.1=26 then(labsV i).foldl (fun b t=>ndMax b (rest.getD (t.toNat - (n+1)) ndZero)) ndZero
   else if onV i.1=true∧i.1≠17 then rest.getD 0 ndZero else ndZero
  ndOwn o i behind :: rest
def verifyOf (o:Ob):List VSt × List VNd × Int × Int:=
 if checkOf o≠0 then([],[],checkOf o,-1)
 else if o.preds.any (fun p=>decide (p.2.2=65535))=true then([],[],12,-1)
 else match walkV o o.code.length 0 (startV o) [] with
  | .error n=>([],[],14,(n:Int))
  | .ok l=>(l,needsV o o.code.length,0,-1)
theorem zs19 (i:Nat):2 * (2 ^ i - 1)+1=2 ^ (i+1) - 1:=by
 have:0<2 ^ i:=Nat.two_pow_pos i
 rw [Nat.pow_succ]
 omega
theorem set_is (x n:Nat):(x / 2 ^ n % 2=1) ↔ x.testBit n=true:=by
 rw [Nat.testBit_eq_decide_div_mod_eq]
 simp
theorem half_pow (x n:Nat):x / 2 ^ n / 2=x / 2 ^ (n+1):=by
 rw [Nat.div_div_eq_div_mul,Nat.pow_succ]
theorem zx14 {a b:Nat} (h1:a / 2=b / 2) (h2:a % 2=b % 2):a=b:=by omega
theorem zl17:∀ (n x:Nat),x.testBit n=false→x+2 ^ n=x ||| 2 ^ n
 | 0,x,h=>by
  rw [Nat.testBit_eq_decide_div_mod_eq] at h
  have h0:x % 2=0:=by
   have:¬ x % 2=1:=by simpa using h
   omega
  apply zx14
  ·rw [Nat.or_div_two]
   have:(2 ^ 0) / 2=0:=by decide
   rw [this,Nat.or_zero]
   simp
   omega
  ·have h1:(x ||| 2 ^ 0) % 2=1:=by
    rw [Nat.or_mod_two_eq_one]
    right
    decide
   rw [h1]
   simp
   omega
 | n+1,x,h=>by
  have h1:(x / 2).testBit n=false:=by rw [← Nat.testBit_succ];exact h
  have ih:=zl17 n (x / 2) h1
  have hp:2 ^ (n+1)=2 * 2 ^ n:=by rw [Nat.pow_succ,Nat.mul_comm]
  apply zx14
  ·rw [Nat.or_div_two]
   have:2 ^ (n+1) / 2=2 ^ n:=by omega
   rw [this,← ih]
   omega
  ·have h2:(x ||| 2 ^ (n+1)) % 2=x % 2:=by
    rcases Nat.mod_two_eq_zero_or_one x with h3 | h3
    ·rw [h3]
     rcases Nat.mod_two_eq_zero_or_one (x ||| 2 ^ (n+1)) with h4 | h4
     ·exact h4
     ·rw [Nat.or_mod_two_eq_one] at h4
      omega
    ·rw [h3,Nat.or_mod_two_eq_one]
     exact .inl h3
   rw [h2]
   omega
theorem with_had {n x:Nat} (h:x.testBit n=true):x ||| 2 ^ n=x:=by
 apply Nat.eq_of_testBit_eq
 intro i
 rw [Nat.testBit_or,Nat.testBit_two_pow]
 by_cases e:n=i
 ·subst e
  simp [h]
 ·simp [e]
theorem mod_succ (x i:Nat):x % 2 ^ (i+1)=x % 2 ^ i+2 ^ i * (x.testBit i).toNat:=by
 rw [Nat.pow_succ,Nat.mod_mul,Nat.testBit_eq_decide_div_mod_eq]
 rcases Nat.mod_two_eq_zero_or_one (x / 2 ^ i) with h | h <;> rw [h] <;> simp
theorem both_step (a b i:Nat):(a &&& b) % 2 ^ (i+1)=if a.testBit i=true∧b.testBit i=true then((a &&& b) % 2 ^ i) ||| 2 ^ i else(a &&& b) % 2 ^ i:=by
 rw [mod_succ,Nat.testBit_and]
 have hlt:(a &&& b) % 2 ^ i<2 ^ i:=Nat.mod_lt _ (Nat.two_pow_pos i)
 by_cases h:a.testBit i=true∧b.testBit i=true
 ·rw [if_pos h,h.1,h.2,← zl17 i _ (Nat.testBit_lt_two_pow hlt)]
  simp
 ·rw [if_neg h]
  have:(a.testBit i && b.testBit i)=false:=by
   cases h1:a.testBit i <;> cases h2:b.testBit i <;> simp_all
  rw [this]
  simp
theorem both_end {a b:Nat} (ha:a<2 ^ 16):(a &&& b) % 2 ^ 16=a &&& b:=Nat.mod_eq_of_lt (Nat.lt_of_le_of_lt Nat.and_le_left ha)
theorem or_lt {x r:Nat} (hx:x<2 ^ 16) (hr:r<16):x ||| 2 ^ r<2 ^ 16:=Nat.or_lt_two_pow hx (Nat.pow_lt_pow_right (by decide) hr)
theorem zh6 {n:Nat} (h:n≤8):2 ^ n - 1<2 ^ 8:=by
 have h1:2 ^ n≤2 ^ 8:=Nat.pow_le_pow_right (by decide) h
 have h2:=Nat.two_pow_pos n
 omega
end Go.Proofs.YtlmbiafloiompaaGreatDoor

namespace Go.Proofs.YtlmbiafloiompaaGreatDoor
open Go Go.RowKit
theorem zz11 (n:Nat) (hn:n≤8) (w:World) :
  Calls Tryz.prog 95 #[.int .i64 n] w fun e w'=>e=.returned (.int .u32 ((2 ^ n - 1:Nat):Int))∧w=w':=by
 have HV:Hid (((2:Int) ^ n % 4294967296 - 1) % 4294967296=((2 ^ n - 1:Nat):Int)):=hD (by
  have h:n=0 ∨ n=1 ∨ n=2 ∨ n=3 ∨ n=4 ∨ n=5 ∨ n=6 ∨ n=7 ∨ n=8:=by omega
  rcases h with rfl | rfl | rfl | rfl | rfl | rfl | rfl | rfl | rfl <;> decide)
 go_enter Tryz.func95,Tryz.ntmps95
 go_wp2
 go_ret
 exact⟨by rw [HV.out];rfl,rfl⟩
theorem y_at (x:Nat) (env y0 y1 y2 y3 y4 y5 y6 y7 y8 y9 y10 y11 y12 y13 y14 y15 left:Int) (alt neck:Bool) (k:Nat) (hk:k<16):(#[.int .u32 (x:Nat),.int .i64 env,.int .i64 y0,.int .i64 y1,.int .i64 y2,.int .i64 y3,.int .i64 y4,.int .i64 y5,.int .i64 y6,.int .i64 y7,.int .i64 y8,.int .i64 y9,.int .i64 y10,.int .i64 y11,.int .i64 y12,.int .i64 y13,.int .i64 y14,.int .i64 y15,.int .i64 left,.bool alt,.bool neck]:Array Value)[2+k]?=some (.int .i64 ([y0,y1,y2,y3,y4,y5,y6,y7,y8,y9,y10,y11,y12,y13,y14,y15].getD k 0)):=by
 have h:k=0 ∨ k=1 ∨ k=2 ∨ k=3 ∨ k=4 ∨ k=5 ∨ k=6 ∨ k=7 ∨ k=8 ∨ k=9 ∨ k=10 ∨ k=11 ∨ k=12 ∨ k=13 ∨ k=14 ∨ k=15:=by omega
 rcases h with rfl | rfl | rfl | rfl | rfl | rfl | rfl | rfl | rfl | rfl | rfl | rfl | rfl | rfl | rfl | rfl <;> rfl
theorem shr_is (x r:Nat) (hx:x<2 ^ 16):(bits .and .u32 ((x:Int) / 2 ^ r) 1 == 1)=x.testBit r:=by
 have e:(x:Int) / 2 ^ r=((x / 2 ^ r:Nat):Int):=by rw [Int.natCast_ediv,Int.natCast_pow];rfl
 have hl:x / 2 ^ r<4294967296:=Nat.lt_of_le_of_lt (Nat.div_le_self _ _) (by omega)
 have h:=u32_and_nat (x / 2 ^ r) 1 hl (by decide)
 rw [e]
 have h1:((1:Nat):Int)=1:=rfl
 rw [h1] at h
 rw [h,Nat.and_one_is_mod]
 have h2:=set_is x r
 rcases Nat.mod_two_eq_zero_or_one (x / 2 ^ r) with h3 | h3
 ·rw [h3]
  cases hb:x.testBit r with
  | false=>decide
  | true=>have:=h2.2 hb;omega
 ·rw [h3,h2.1 h3]
  decide
theorem isSet_any (x:Nat) (env y0 y1 y2 y3 y4 y5 y6 y7 y8 y9 y10 y11 y12 y13 y14 y15 left:Int) (alt neck:Bool) (r:Nat) (hx:x<2 ^ 16) (hr:r<16) (w:World) :
  Calls Tryz.prog 125 #[.agg #[.int .u32 (x:Nat),.int .i64 env,.int .i64 y0,.int .i64 y1,.int .i64 y2,.int .i64 y3,.int .i64 y4,.int .i64 y5,.int .i64 y6,.int .i64 y7,.int .i64 y8,.int .i64 y9,.int .i64 y10,.int .i64 y11,.int .i64 y12,.int .i64 y13,.int .i64 y14,.int .i64 y15,.int .i64 left,.bool alt,.bool neck],.int .i64 r] w fun e w'=>e=.returned (.bool (setV (⟨x,env,[y0,y1,y2,y3,y4,y5,y6,y7,y8,y9,y10,y11,y12,y13,y14,y15],left,alt,neck⟩:VSt) r))∧Below w.heap.size w w':=by
 have HS:=hD (shr_is x r hx)
 have hmin:min r 32=r:=by omega
 have HB:=hD (za w (.cells #[.int .u32 (x:Nat),.int .i64 env,.int .i64 y0,.int .i64 y1,.int .i64 y2,.int .i64 y3,.int .i64 y4,.int .i64 y5,.int .i64 y6,.int .i64 y7,.int .i64 y8,.int .i64 y9,.int .i64 y10,.int .i64 y11,.int .i64 y12,.int .i64 y13,.int .i64 y14,.int .i64 y15,.int .i64 left,.bool alt,.bool neck] 58))
 go_enter Tryz.func125,Tryz.ntmps125
 go_wp2
 go_ret
 exact⟨by rw [HS.out];rfl,HB.out⟩
theorem bel_dn {B:Nat} {w w':World} (h:Below B w w') (n:Nat):Below B w (w'.drewN n):=⟨h.os,h.tape,h.output,h.size,h.block⟩
theorem has_any (x:Nat) (env y0 y1 y2 y3 y4 y5 y6 y7 y8 y9 y10 y11 y12 y13 y14 y15 left:Int) (alt neck:Bool) (k:Nat) (hk:k<16) (w:World) :
  Calls Tryz.prog 129 #[.agg #[.int .u32 (x:Nat),.int .i64 env,.int .i64 y0,.int .i64 y1,.int .i64 y2,.int .i64 y3,.int .i64 y4,.int .i64 y5,.int .i64 y6,.int .i64 y7,.int .i64 y8,.int .i64 y9,.int .i64 y10,.int .i64 y11,.int .i64 y12,.int .i64 y13,.int .i64 y14,.int .i64 y15,.int .i64 left,.bool alt,.bool neck],.int .i64 k] w fun e w'=>e=.returned (.int .i64 (if env≤k then -1 else yAt (⟨x,env,[y0,y1,y2,y3,y4,y5,y6,y7,y8,y9,y10,y11,y12,y13,y14,y15],left,alt,neck⟩:VSt) k))∧Below w.heap.size w w':=by
 have HB:=hD (za w (.cells #[.int .u32 (x:Nat),.int .i64 env,.int .i64 y0,.int .i64 y1,.int .i64 y2,.int .i64 y3,.int .i64 y4,.int .i64 y5,.int .i64 y6,.int .i64 y7,.int .i64 y8,.int .i64 y9,.int .i64 y10,.int .i64 y11,.int .i64 y12,.int .i64 y13,.int .i64 y14,.int .i64 y15,.int .i64 left,.bool alt,.bool neck] 58))
 have hc:=(Box.new w 58 #[.int .u32 (x:Nat),.int .i64 env,.int .i64 y0,.int .i64 y1,.int .i64 y2,.int .i64 y3,.int .i64 y4,.int .i64 y5,.int .i64 y6,.int .i64 y7,.int .i64 y8,.int .i64 y9,.int .i64 y10,.int .i64 y11,.int .i64 y12,.int .i64 y13,.int .i64 y14,.int .i64 y15,.int .i64 left,.bool alt,.bool neck]).cell (2+k)
 rw [y_at x env y0 y1 y2 y3 y4 y5 y6 y7 y8 y9 y10 y11 y12 y13 y14 y15 left alt neck k hk] at hc
 have HY:Hid ([y0,y1,y2,y3,y4,y5,y6,y7,y8,y9,y10,y11,y12,y13,y14,y15].getD k 0=yAt (⟨x,env,[y0,y1,y2,y3,y4,y5,y6,y7,y8,y9,y10,y11,y12,y13,y14,y15],left,alt,neck⟩:VSt) k):=hD (by unfold yAt;rw [Int.toNat_natCast])
 generalize [y0,y1,y2,y3,y4,y5,y6,y7,y8,y9,y10,y11,y12,y13,y14,y15].getD k 0=yk at hc HY
 obtain⟨res,hres⟩:∃ res,(if env≤k then -1 else yAt (⟨x,env,[y0,y1,y2,y3,y4,y5,y6,y7,y8,y9,y10,y11,y12,y13,y14,y15],left,alt,neck⟩:VSt) k)=res:=⟨_,rfl⟩
 rw [hres]
 by_cases h:env≤k
 ·have HR:Hid (res = -1):=hD (by rw [← hres,if_pos h])
  clear hres
  go_enter Tryz.func129,Tryz.ntmps129
  go_wp2
  go_ret
  exact⟨by rw [HR.out];rfl,HB.out⟩
 ·have HR:Hid (res=yk):=hD (by rw [← hres,if_neg h,← HY.out])
  clear hres
  have k0:(0:Int)≤(k:Int):=by omega
  have k1:(k:Int)<16:=by omega
  go_enter Tryz.func129,Tryz.ntmps129
  go_wp2
  go_ret
  exact⟨by rw [HR.out];rfl,HB.out⟩
theorem cover_is (x n:Nat) (hx:x<2 ^ 16) (hn:n≤8):(bits .and .u32 (x:Int) ((2 ^ n - 1:Nat):Int) == ((2 ^ n - 1:Nat):Int))=decide (x &&& (2 ^ n - 1)=2 ^ n - 1):=by
 have h1:=zh6 hn
 rw [u32_and_nat x (2 ^ n - 1) (by omega) (by omega)]
 by_cases h:x &&& (2 ^ n - 1)=2 ^ n - 1
 ·rw [decide_eq_true h,h]
  simp
 ·rw [decide_eq_false h]
  rw [beq_eq_false_iff_ne]
  intro e
  exact h (by exact_mod_cast e)
theorem zm14 (x:Nat) (env y0 y1 y2 y3 y4 y5 y6 y7 y8 y9 y10 y11 y12 y13 y14 y15 left:Int) (alt neck:Bool) (n:Nat) (hx:x<2 ^ 16) (hn:n≤8) (w:World) :
  Calls Tryz.prog 128 #[.agg #[.int .u32 (x:Nat),.int .i64 env,.int .i64 y0,.int .i64 y1,.int .i64 y2,.int .i64 y3,.int .i64 y4,.int .i64 y5,.int .i64 y6,.int .i64 y7,.int .i64 y8,.int .i64 y9,.int .i64 y10,.int .i64 y11,.int .i64 y12,.int .i64 y13,.int .i64 y14,.int .i64 y15,.int .i64 left,.bool alt,.bool neck],.int .i64 n] w fun e w'=>e=.returned (.bool (coverV (⟨x,env,[y0,y1,y2,y3,y4,y5,y6,y7,y8,y9,y10,y11,y12,y13,y14,y15],left,alt,neck⟩:VSt) n))∧Below w.heap.size w w':=by
 have HS:=hD (cover_is x n hx hn)
 have HB:=hD (za w (.cells #[.int .u32 (x:Nat),.int .i64 env,.int .i64 y0,.int .i64 y1,.int .i64 y2,.int .i64 y3,.int .i64 y4,.int .i64 y5,.int .i64 y6,.int .i64 y7,.int .i64 y8,.int .i64 y9,.int .i64 y10,.int .i64 y11,.int .i64 y12,.int .i64 y13,.int .i64 y14,.int .i64 y15,.int .i64 left,.bool alt,.bool neck] 58))
 have HF:=hD (fun w=>zz11 n hn w)
 have HR:Hid (coverV (⟨x,env,[y0,y1,y2,y3,y4,y5,y6,y7,y8,y9,y10,y11,y12,y13,y14,y15],left,alt,neck⟩:VSt) n=decide (x &&& (2 ^ n - 1)=2 ^ n - 1)):=hD (by unfold coverV;rw [Int.toNat_natCast])
 generalize coverV (⟨x,env,[y0,y1,y2,y3,y4,y5,y6,y7,y8,y9,y10,y11,y12,y13,y14,y15],left,alt,neck⟩:VSt) n=res at HR ⊢
 have hx0:=Box.new w 58 #[.int .u32 (x:Nat),.int .i64 env,.int .i64 y0,.int .i64 y1,.int .i64 y2,.int .i64 y3,.int .i64 y4,.int .i64 y5,.int .i64 y6,.int .i64 y7,.int .i64 y8,.int .i64 y9,.int .i64 y10,.int .i64 y11,.int .i64 y12,.int .i64 y13,.int .i64 y14,.int .i64 y15,.int .i64 left,.bool alt,.bool neck]
 have c0:=hx0.cell 0
 clear hx0
 go_enter Tryz.func128,Tryz.ntmps128
 go_upto_region 1 with(fail)
 obtain⟨w1,hw1⟩:∃ w1,w.alloc (.cells #[.int .u32 (x:Nat),.int .i64 env,.int .i64 y0,.int .i64 y1,.int .i64 y2,.int .i64 y3,.int .i64 y4,.int .i64 y5,.int .i64 y6,.int .i64 y7,.int .i64 y8,.int .i64 y9,.int .i64 y10,.int .i64 y11,.int .i64 y12,.int .i64 y13,.int .i64 y14,.int .i64 y15,.int .i64 left,.bool alt,.bool neck] 58)=w1:=⟨_,rfl⟩
 obtain⟨g,hg⟩:∃ g,w.heap.size=g:=⟨_,rfl⟩
 rw [hw1] at HB c0 ⊢
 rw [hg] at c0 ⊢
 clear hw1
 go_quiet ((go_at_call 95;exact Calls.quiet_of_same ((HF.out _).mono fun _ _ h=>⟨h.1,h.2.symm⟩)))
 go_wp2
 go_ret
 exact⟨by rw [HR.out,← HS.out];rfl,by first | exact bel_dn HB.out _ | (rw [← hg];exact bel_dn HB.out _)⟩
set_option maxRecDepth 4000
def stA (s:VSt):Array Value:=(Value.int .u32 (s.x:Int) :: Value.int .i64 s.env :: (s.y.map (Value.int .i64) ++ [.int .i64 s.left,.bool s.alt,.bool s.neck])).toArray
structure StOk (s:VSt):Prop where
 y:s.y.length=16
 x:s.x<2 ^ 16
theorem zm1 (l:List Int) (h:l.length=16):∃ y0 y1 y2 y3 y4 y5 y6 y7 y8 y9 y10 y11 y12 y13 y14 y15,l=[y0,y1,y2,y3,y4,y5,y6,y7,y8,y9,y10,y11,y12,y13,y14,y15]:=by
 match l,h with
 | [y0,y1,y2,y3,y4,y5,y6,y7,y8,y9,y10,y11,y12,y13,y14,y15],_=>exact⟨y0,y1,y2,y3,y4,y5,y6,y7,y8,y9,y10,y11,y12,y13,y14,y15,rfl⟩
theorem zh {s:VSt} (h:StOk s):(stA s).size=21:=by
 have:=h.y
 simp [stA,this]
theorem stA_x (s:VSt):(stA s)[0]?=some (.int .u32 (s.x:Int)):=rfl
theorem zs2 (s:VSt):(stA s)[1]?=some (.int .i64 s.env):=rfl
theorem zh1 {s:VSt} (h:StOk s):(stA s)[18]?=some (.int .i64 s.left):=by
 obtain⟨y0,y1,y2,y3,y4,y5,y6,y7,y8,y9,y10,y11,y12,y13,y14,y15,e⟩:=zm1 s.y h.y
 rw [stA,e];rfl
theorem ze3 {s:VSt} (h:StOk s):(stA s)[19]?=some (.bool s.alt):=by
 obtain⟨y0,y1,y2,y3,y4,y5,y6,y7,y8,y9,y10,y11,y12,y13,y14,y15,e⟩:=zm1 s.y h.y
 rw [stA,e];rfl
theorem zy2 {s:VSt} (h:StOk s):(stA s)[20]?=some (.bool s.neck):=by
 obtain⟨y0,y1,y2,y3,y4,y5,y6,y7,y8,y9,y10,y11,y12,y13,y14,y15,e⟩:=zm1 s.y h.y
 rw [stA,e];rfl
theorem stA_y {s:VSt} (h:StOk s) (k:Nat) (hk:k<16):(stA s)[2+k]?=some (.int .i64 (yAt s k)):=by
 obtain⟨x,env,y,left,alt,neck⟩:=s
 obtain⟨y0,y1,y2,y3,y4,y5,y6,y7,y8,y9,y10,y11,y12,y13,y14,y15,rfl⟩:=zm1 y h.y
 have:=y_at x env y0 y1 y2 y3 y4 y5 y6 y7 y8 y9 y10 y11 y12 y13 y14 y15 left alt neck k hk
 unfold yAt
 rw [Int.toNat_natCast]
 exact this
theorem zc4 {s:VSt} (h:StOk s) (r:Int) (h0:0≤r) (hr:r<16) (w:World) :
  Calls Tryz.prog 125 #[.agg (stA s),.int .i64 r] w fun e w'=>e=.returned (.bool (setV s r))∧Below w.heap.size w w':=by
 obtain⟨x,env,y,left,alt,neck⟩:=s
 obtain⟨y0,y1,y2,y3,y4,y5,y6,y7,y8,y9,y10,y11,y12,y13,y14,y15,rfl⟩:=zm1 y h.y
 obtain⟨k,rfl⟩:∃ k:Nat,r=k:=⟨r.toNat,by omega⟩
 exact isSet_any x env y0 y1 y2 y3 y4 y5 y6 y7 y8 y9 y10 y11 y12 y13 y14 y15 left alt neck k h.x (by omega) w
theorem has_st {s:VSt} (h:StOk s) (r:Int) (h0:0≤r) (hr:r<16) (w:World) :
  Calls Tryz.prog 129 #[.agg (stA s),.int .i64 r] w fun e w'=>e=.returned (.int .i64 (if s.env≤r then -1 else yAt s r))∧Below w.heap.size w w':=by
 obtain⟨x,env,y,left,alt,neck⟩:=s
 obtain⟨y0,y1,y2,y3,y4,y5,y6,y7,y8,y9,y10,y11,y12,y13,y14,y15,rfl⟩:=zm1 y h.y
 obtain⟨k,rfl⟩:∃ k:Nat,r=k:=⟨r.toNat,by omega⟩
 exact has_any x env y0 y1 y2 y3 y4 y5 y6 y7 y8 y9 y10 y11 y12 y13 y14 y15 left alt neck k (by omega) w
theorem zu5 {s:VSt} (h:StOk s) (n:Nat) (hn:n≤8) (w:World) :
  Calls Tryz.prog 128 #[.agg (stA s),.int .i64 n] w fun e w'=>e=.returned (.bool (coverV s n))∧Below w.heap.size w w':=by
 obtain⟨x,env,y,left,alt,neck⟩:=s
 obtain⟨y0,y1,y2,y3,y4,y5,y6,y7,y8,y9,y10,y11,y12,y13,y14,y15,rfl⟩:=zm1 y h.y
 exact zm14 x env y0 y1 y2 y3 y4 y5 y6 y7 y8 y9 y10 y11 y12 y13 y14 y15 left alt neck n h.x hn w
theorem has_eq (env r v:Int) (c:Int) (hc:c≠-1):((if env≤r then -1 else v) == c)=(decide (r<env) && decide (v=c)):=by
 by_cases h:env≤r
 ·have h1:¬ r<env:=by omega
  rw [if_pos h,decide_eq_false h1,Bool.false_and,beq_eq_false_iff_ne]
  exact fun e=>hc e.symm
 ·have h1:r<env:=by omega
  rw [if_neg h,decide_eq_true h1,Bool.true_and]
  by_cases hv:v=c
  ·rw [decide_eq_true hv,hv];simp
  ·rw [decide_eq_false hv,beq_eq_false_iff_ne];exact hv
theorem zp3:(Tryz.prog.info? 58).map (·.size)=some 21:=by kernel_rfl
theorem st_row:(Tryz.prog.underlying 58).map TypeDesc.isRow=some true:=by kernel_rfl
theorem zk1 {ops:Array Oper} {rest:List Oper} {op:Oper} {a:Act} {w:World} {Q:Exit→Act→World→Prop} (hw:Region.wanted op (yielded ops a.tmps)=true) (x:Operand) (ho:op.op=.load 58 x)
  (g:Nat) (hx:a.eval x=.pointer (some ⟨g,0,none⟩)) (A:Array Value) (hb:Box w g 58 A) (hs:A.size=21)
  (h:wpList Tryz.prog ops Q rest (a.put op.dst (.agg A)) w):wpList Tryz.prog ops Q (op :: rest) a w:=by
 have hr:=st_row
 obtain⟨d,hd⟩:∃ d,Tryz.prog.underlying 58=some d:=by
  cases hu:Tryz.prog.underlying 58 with
  | none=>rw [hu] at hr;exact absurd hr (by decide)
  | some d=>exact⟨d,rfl⟩
 have hd':d.isRow=true:=by
  rw [hd] at hr
  exact Option.some.inj hr
 have hl:A.toList.length=21:=by rw [Array.length_toList,hs]
 refine BigFrame.wpList_want hw fun K hK=>wp_load_mid 58 x ho g 0 hx A.toList d (fun j v hv=>by
  rw [hb.cell,Nat.zero_add,← Array.getElem?_toList];exact hv) hd hd' (by rw [hl];exact zp3) ?_
 rw [Array.toArray_toList]
 exact hK _ _ h
theorem zf {ops:Array Oper} {rest:List Oper} {op:Oper} {a:Act} {w:World} {Q:Exit→Act→World→Prop} (hgd:op.guard=none) (x:Operand) (ho:op.op=.load 58 x)
  (g:Nat) (hx:a.eval x=.pointer (some ⟨g,0,none⟩)) (A:Array Value) (hb:Box w g 58 A) (hs:A.size=21)
  (h:wpList Tryz.prog ops Q rest (a.put op.dst (.agg A)) w):wpList Tryz.prog ops Q (op :: rest) a w:=
 zk1 (by simp only [Region.wanted,hgd]) x ho g hx A hb hs h
theorem zq9 {s:VSt} (hs:StOk s) (r:Int) (h0:0≤r) (hr:r<32) (w:World) :
  Calls Tryz.prog 127 #[.agg (stA s),.int .i64 r] w fun e w'=>e=.returned (.bool (termV s r))∧Below w.heap.size w w':=by
 have HB:=hD (za w (.cells (stA s) 58))
 have HX:=hD (Box.new w 58 (stA s))
 have HZ:=hD (zh hs)
 by_cases h:r<16
 ·have HR:Hid (termV s r=setV s r):=hD (if_pos h)
  have HI:=hD (fun w=>zc4 hs r h0 h w)
  generalize termV s r=res at HR ⊢
  generalize setV s r=sv at HR HI
  generalize stA s=A at HB HX HZ HI ⊢
  go_enter Tryz.func127,Tryz.ntmps127
  go_upto_region 1 with(fail)
  obtain⟨w1,hw1⟩:∃ w1,w.alloc (.cells A 58)=w1:=⟨_,rfl⟩
  obtain⟨g,hg⟩:∃ g,w.heap.size=g:=⟨_,rfl⟩
  rw [hw1] at HB HX ⊢
  have HG:=hD HB.out.size
  rw [hg] at HB HX HG ⊢
  clear hw1
  go_wp2_with (first | (refine zf rfl (.tmp 2) rfl g rfl A HX.out HZ.out ?_) | (go_at_call 125;refine(HI.out _).mono ?_;rintro e1 w2 ⟨rfl,hb1⟩;have HB1:=hD (HB.out.trans (hb1.mono HG.out));clear hb1))
  go_ret
  exact⟨by rw [HR.out];rfl,by first | exact HB1.out | exact HB.out | (rw [hg];exact HB1.out) | (rw [hg];exact HB.out)⟩
 ·have hk0:0≤r - 16:=by omega
  have hk1:r - 16<16:=by omega
  have HR:Hid (termV s r=((if s.env≤r - 16 then -1 else yAt s (r - 16)) == 1)):=hD (by
   rw [has_eq _ _ _ 1 (by decide)]
   exact if_neg h)
  have HI:=hD (fun w=>has_st hs (r - 16) hk0 hk1 w)
  generalize termV s r=res at HR ⊢
  generalize (if s.env≤r - 16 then -1 else yAt s (r - 16))=sv at HR HI
  generalize stA s=A at HB HX HZ HI ⊢
  go_enter Tryz.func127,Tryz.ntmps127
  go_upto_region 1 with(fail)
  obtain⟨w1,hw1⟩:∃ w1,w.alloc (.cells A 58)=w1:=⟨_,rfl⟩
  obtain⟨g,hg⟩:∃ g,w.heap.size=g:=⟨_,rfl⟩
  rw [hw1] at HB HX ⊢
  have HG:=hD HB.out.size
  rw [hg] at HB HX HG ⊢
  clear hw1
  go_wp2_with (first | (refine zf rfl (.tmp 2) rfl g rfl A HX.out HZ.out ?_) | (go_at_call 129;refine(HI.out _).mono ?_;rintro e1 w2 ⟨rfl,hb1⟩;have HB1:=hD (HB.out.trans (hb1.mono HG.out));clear hb1))
  go_ret
  exact⟨by rw [HR.out];rfl,by first | exact HB1.out | exact HB.out | (rw [hg];exact HB1.out) | (rw [hg];exact HB.out)⟩
theorem zz12 {s:VSt} (hs:StOk s) (r:Int) (h0:0≤r) (hr:r<32) (w:World) :
  Calls Tryz.prog 126 #[.agg (stA s),.int .i64 r] w fun e w'=>e=.returned (.bool (mayV s r))∧Below w.heap.size w w':=by
 have HB:=hD (za w (.cells (stA s) 58))
 have HX:=hD (Box.new w 58 (stA s))
 have HZ:=hD (zh hs)
 by_cases h:r<16
 ·have HR:Hid (mayV s r=true):=hD (by unfold mayV;rw [decide_eq_true h,Bool.true_or])
  generalize mayV s r=res at HR ⊢
  generalize stA s=A at HB HX HZ ⊢
  go_enter Tryz.func126,Tryz.ntmps126
  go_upto_region 1 with(fail)
  obtain⟨w1,hw1⟩:∃ w1,w.alloc (.cells A 58)=w1:=⟨_,rfl⟩
  obtain⟨g,hg⟩:∃ g,w.heap.size=g:=⟨_,rfl⟩
  rw [hw1] at HB HX ⊢
  have HG:=hD HB.out.size
  rw [hg] at HB HX HG ⊢
  clear hw1
  go_wp2_with (first | (refine zk1 (by rfl) (.tmp 2) rfl g rfl A HX.out HZ.out ?_) | (go_at_call 125;refine(HI.out _).mono ?_;rintro e1 w2 ⟨rfl,hb1⟩;have HB1:=hD (HB.out.trans (hb1.mono HG.out));clear hb1))
  go_ret
  exact⟨by rw [HR.out];rfl,by first | exact HB1.out | exact HB.out | (rw [hg];exact HB1.out) | (rw [hg];exact HB.out)⟩
 ·have hk0:0≤r - 16:=by omega
  have hk1:r - 16<16:=by omega
  have HR:Hid (mayV s r=((if s.env≤r - 16 then -1 else yAt s (r - 16)) == 0)):=hD (by
   rw [has_eq _ _ _ 0 (by decide)]
   unfold mayV;rw [decide_eq_false h,Bool.false_or])
  have HI:=hD (fun w=>has_st hs (r - 16) hk0 hk1 w)
  generalize mayV s r=res at HR ⊢
  generalize (if s.env≤r - 16 then -1 else yAt s (r - 16))=sv at HR HI
  generalize stA s=A at HB HX HZ HI ⊢
  go_enter Tryz.func126,Tryz.ntmps126
  go_upto_region 1 with(fail)
  obtain⟨w1,hw1⟩:∃ w1,w.alloc (.cells A 58)=w1:=⟨_,rfl⟩
  obtain⟨g,hg⟩:∃ g,w.heap.size=g:=⟨_,rfl⟩
  rw [hw1] at HB HX ⊢
  have HG:=hD HB.out.size
  rw [hg] at HB HX HG ⊢
  clear hw1
  go_wp2_with (first | (refine zk1 (by rfl) (.tmp 2) rfl g rfl A HX.out HZ.out ?_) | (go_at_call 129;refine(HI.out _).mono ?_;rintro e1 w2 ⟨rfl,hb1⟩;have HB1:=hD (HB.out.trans (hb1.mono HG.out));clear hb1))
  go_ret
  exact⟨by rw [HR.out];rfl,by first | exact HB1.out | exact HB.out | (rw [hg];exact HB1.out) | (rw [hg];exact HB.out)⟩
theorem zb7 (w:World) (A B:Array Value) (t:TypeId):Box ((w.alloc (.cells A t)).alloc (.cells B t)) w.heap.size t A∧Box ((w.alloc (.cells A t)).alloc (.cells B t)) (w.heap.size+1) t B∧Below w.heap.size w ((w.alloc (.cells A t)).alloc (.cells B t)):=by
 have h1:=za w (.cells A t)
 have h2:=za (w.alloc (.cells A t)) (.cells B t)
 have e:(w.alloc (.cells A t)).heap.size=w.heap.size+1:=by simp
 refine⟨(Box.new w t A).alloc _,?_,h1.trans (h2.mono h1.size)⟩
 have:=Box.new (w.alloc (.cells A t)) t B
 rw [e] at this
 exact this
theorem fits_st {s t:VSt} (hs:StOk s) (ht:StOk t) (w:World) :
  Calls Tryz.prog 93 #[.agg (stA s),.agg (stA t)] w fun e w'=>e=.returned (.bool (fitsV s t))∧Below w.heap.size w w':=by
 obtain⟨X1,X2,hb⟩:=zb7 w (stA s) (stA t) 58
 have HB:=hD hb
 have HX:=hD X1
 have HY:=hD X2
 clear hb X1 X2
 have s1:=zs2 s
 have s2:=zh1 hs
 have s3:=ze3 hs
 have t1:=zs2 t
 have t2:=zh1 ht
 have t3:=ze3 ht
 have HR:Hid (fitsV s t=(decide (s.env=t.env) && decide (s.left=t.left) && decide (s.alt=t.alt))):=hD rfl
 generalize fitsV s t=res at HR ⊢
 generalize stA s=A at HB HX HY s1 s2 s3 ⊢
 generalize stA t=B at HB HX HY t1 t2 t3 ⊢
 generalize s.env=se at HR s1
 generalize t.env=te at HR t1
 generalize s.left=sl at HR s2
 generalize t.left=tl at HR t2
 generalize s.alt=sa at HR s3
 generalize t.alt=ta at HR t3
 go_enter Tryz.func93,Tryz.ntmps93
 go_upto_region 1 with(fail)
 obtain⟨w1,hw1⟩:∃ w1,(w.alloc (.cells A 58)).alloc (.cells B 58)=w1:=⟨_,rfl⟩
 obtain⟨g,hg⟩:∃ g,w.heap.size=g:=⟨_,rfl⟩
 rw [hw1] at HB HX HY ⊢
 have HG:=hD HB.out.size
 rw [hg] at HB HX HY HG ⊢
 clear hw1
 have c1:=HX.out.cell 1
 have c2:=HX.out.cell 18
 have c3:=HX.out.cell 19
 have d1:=HY.out.cell 1
 have d2:=HY.out.cell 18
 have d3:=HY.out.cell 19
 rw [s1] at c1
 rw [s2] at c2
 rw [s3] at c3
 rw [t1] at d1
 rw [t2] at d2
 rw [t3] at d3
 clear s1 s2 s3 t1 t2 t3
 by_cases h1:se=te
 ·by_cases h2:sl=tl
  ·by_cases h3:sa=ta
   ·have HR':Hid (res=true):=hD (by rw [HR.out,decide_eq_true h1,decide_eq_true h2,decide_eq_true h3];rfl)
    clear HR
    subst h1 h2 h3
    go_wp2
    go_ret
    exact⟨by rw [HR'.out];rfl,by first | exact HB.out | (rw [hg];exact HB.out)⟩
   ·have HR':Hid (res=false):=hD (by rw [HR.out,decide_eq_false h3,Bool.and_false])
    clear HR
    have h3':(sa == ta)=false:=beq_eq_false_iff_ne.2 h3
    subst h1 h2
    go_wp2
    go_ret
    exact⟨by rw [HR'.out];rfl,by first | exact HB.out | (rw [hg];exact HB.out)⟩
  ·have HR':Hid (res=false):=hD (by rw [HR.out,decide_eq_false h2,Bool.and_false,Bool.false_and])
   clear HR
   have h2':(sl == tl)=false:=beq_eq_false_iff_ne.2 h2
   subst h1
   go_wp2
   go_ret
   exact⟨by rw [HR'.out];rfl,by first | exact HB.out | (rw [hg];exact HB.out)⟩
 ·have HR':Hid (res=false):=hD (by rw [HR.out,decide_eq_false h1,Bool.false_and,Bool.false_and])
  clear HR
  have h1':(se == te)=false:=beq_eq_false_iff_ne.2 h1
  go_wp2
  go_ret
  exact⟨by rw [HR'.out];rfl,by first | exact HB.out | (rw [hg];exact HB.out)⟩
theorem zk7 (op:Int) (w:World) :
  Calls Tryz.prog 99 #[.int .i64 op] w fun e w'=>e=.returned (.bool (!(decide (op=0) || decide (op=18) || decide (op=19) || decide (op=26))))∧w=w':=by
 obtain⟨res,hres⟩:∃ res,(!(decide (op=0) || decide (op=18) || decide (op=19) || decide (op=26)))=res:=⟨_,rfl⟩
 rw [hres]
 have HR:=hD hres
 clear hres
 by_cases h0:op=0
 ·subst h0
  go_enter Tryz.func99,Tryz.ntmps99
  go_wp2
  go_ret
  exact⟨by rw [← HR.out];rfl,rfl⟩
 by_cases h1:op=18
 ·subst h1
  go_enter Tryz.func99,Tryz.ntmps99
  go_wp2
  go_ret
  exact⟨by rw [← HR.out];rfl,rfl⟩
 by_cases h2:op=19
 ·subst h2
  go_enter Tryz.func99,Tryz.ntmps99
  go_wp2
  go_ret
  exact⟨by rw [← HR.out];rfl,rfl⟩
 by_cases h3:op=26
 ·subst h3
  go_enter Tryz.func99,Tryz.ntmps99
  go_wp2
  go_ret
  exact⟨by rw [← HR.out];rfl,rfl⟩
 have HT:Hid (res=true):=hD (by rw [← HR.out,decide_eq_false h0,decide_eq_false h1,decide_eq_false h2,decide_eq_false h3];rfl)
 clear HR
 have e0:(op == 0)=false:=beq_eq_false_iff_ne.2 h0
 have e1:(op == 18)=false:=beq_eq_false_iff_ne.2 h1
 have e2:(op == 19)=false:=beq_eq_false_iff_ne.2 h2
 have e3:(op == 26)=false:=beq_eq_false_iff_ne.2 h3
 go_enter Tryz.func99,Tryz.ntmps99
 go_wp2
 go_ret
 exact⟨by rw [HT.out];rfl,rfl⟩
theorem stA_entry (n:Nat) (n1:Int) (h:n1=((2 ^ n - 1:Nat):Int)):stA (stEntry n)=#[.int .u32 n1,.int .i64 (-1),.int .i64 0,.int .i64 0,.int .i64 0,.int .i64 0,.int .i64 0,.int .i64 0,.int .i64 0,.int .i64 0,.int .i64 0,.int .i64 0,.int .i64 0,.int .i64 0,.int .i64 0,.int .i64 0,.int .i64 0,.int .i64 0,.int .i64 0,.bool false,.bool true]:=by
 subst h
 rfl
theorem StOk.entry (n:Nat) (hn:n≤8):StOk (stEntry n):=⟨rfl,Nat.lt_of_lt_of_le (zh6 hn) (by decide)⟩
theorem zu1 (s:VSt):(stA s).all (·.oneCell')=true:=by
 refine Array.all_eq_true_iff_forall_mem.2 fun v hv=>?_
 simp only [stA,List.mem_toArray,List.mem_cons,List.mem_append,List.mem_map,List.not_mem_nil,or_false] at hv
 rcases hv with rfl | rfl | ⟨_,_,rfl⟩ | rfl | rfl | rfl <;> rfl
theorem Box.row {w:World} {g:Nat} {t:TypeId} {A:Array Value} (h:Box w g t A) (B:Array Value):Box (w.setRow g B) g t B:=setRow_heap w g A B t (0,0) h
theorem Box.row_far {w:World} {g k:Nat} {t:TypeId} {A:Array Value} (h:Box w g t A) (hk:g≠k) (B:Array Value):Box (w.setRow k B) g t A:=(setRow_other w k g B hk).trans h
theorem zx {b:Nat} {w w':World} (h:Below b w w') {g:Nat} (hg:b≤g) (B:Array Value):Below b w (w'.setRow g B):=
 ⟨h.os,h.tape,h.output,by rw [setRow_size];exact h.size,fun k hk=>(setRow_other w' g k B (by omega)).trans (h.block k hk)⟩
theorem zj3 {fn:Func} {p:Tmp} (h:fn.results=#[.cell p 58]) (tmps:Array Value) (w:World) (g:Nat) (A:Array Value)
  (hp:tmps.getD p undef=.pointer (some ⟨g,0,none⟩)) (hb:Box w g 58 A) (hs:A.size=21):(results fn tmps).run Tryz.prog w=.ok (.agg A) w:=by
 have hr:=st_row
 obtain⟨d,hd⟩:∃ d,Tryz.prog.underlying 58=some d:=by
  cases hu:Tryz.prog.underlying 58 with
  | none=>rw [hu] at hr;exact absurd hr (by decide)
  | some d=>exact⟨d,rfl⟩
 have hd':d.isRow=true:=by
  rw [hd] at hr
  exact Option.some.inj hr
 exact results_cell_row h tmps w g 58 A (0,0) d hp hb hd (by cases d <;> first | rfl | exact absurd hd' Bool.false_ne_true) (by rw [hs];exact zp3)
theorem zj1 {ops:Array Oper} {rest:List Oper} {o:Oper} {a:Act} {w:World} {Q:Exit→Act→World→Prop} (hgd:o.guard=none) (x y:Operand) (ho:o.op=.store 58 x y)
  (g:Nat) (A B:Array Value) (hx:a.eval x=.pointer (some ⟨g,0,none⟩)) (hy:a.eval y=.agg A) (hb:Box w g 58 B) (h1:A.size=21) (h2:B.size=21) (hone:A.all (·.oneCell')=true)
  (h:wpList Tryz.prog ops Q rest (a.put o.dst undef) (w.setRow g A)):wpList Tryz.prog ops Q (o :: rest) a w:=
 wpList_store_row hgd 58 x y ho g A hx hy 58 B hb (by rw [h1];exact zp3) (by rw [h1,h2]) hone h
theorem zk11 (n:Nat) (hn:n≤8) (w:World) :
  Calls Tryz.prog 54 #[.int .i64 n] w fun e w'=>e=.returned (.agg (stA (stEntry n)))∧Below w.heap.size w w':=by
 have HF:=hD (fun w=>zz11 n hn w)
 have HE:=hD (fun n1 h=>stA_entry n n1 h)
 have HS:=hD (zh (StOk.entry n hn))
 have H1:=hD (zu1 (stEntry n))
 obtain⟨n1,hn1⟩:∃ n1:Int,((2 ^ n - 1:Nat):Int)=n1:=⟨_,rfl⟩
 rw [hn1] at HF
 have HE2:=hD (HE.out n1 hn1.symm)
 clear HE hn1
 generalize stA (stEntry n)=A at HE2 HS H1 ⊢
 have HB0:=hD (fun o=>za w o)
 have HX0:=hD (fun cs=>Box.new w 58 cs)
 go_enter Tryz.func54,Tryz.ntmps54
 go_upto_region 1 with(fail)
 obtain⟨Z,hZ⟩:∃ Z:Array Value,#[.int .u32 0,.int .i64 0,.int .i64 0,.int .i64 0,.int .i64 0,.int .i64 0,.int .i64 0,.int .i64 0,.int .i64 0,.int .i64 0,.int .i64 0,.int .i64 0,.int .i64 0,.int .i64 0,.int .i64 0,.int .i64 0,.int .i64 0,.int .i64 0,.int .i64 0,.bool false,.bool false]=Z:=⟨_,rfl⟩
 have HZ:Hid (Z.size=21):=hD (by rw [← hZ];rfl)
 rw [hZ]
 have HB:=hD (HB0.out (.cells Z 58))
 have HX:=hD (HX0.out Z)
 clear HB0 HX0 hZ
 obtain⟨w1,hw1⟩:∃ w1,w.alloc (.cells Z 58)=w1:=⟨_,rfl⟩
 rw [hw1] at HB HX ⊢
 clear hw1
 obtain⟨g,hg⟩:∃ g,w.heap.size=g:=⟨_,rfl⟩
 rw [hg] at HB HX ⊢
 go_wp2_with (first | (go_at_call 95;refine(HF.out _).mono ?_;rintro e1 w2 ⟨rfl,rfl⟩) | (refine zj1 rfl (.tmp 2) (.tmp 5) rfl g A Z rfl (by rw [HE2.out];rfl) HX.out HS.out HZ.out H1.out ?_))
 exact bodyPost_ret (zj3 rfl _ _ g A rfl (HX.out.row A) HS.out) rfl ⟨rfl,by rw [hg];exact zx HB.out (Nat.le_refl _) A⟩
theorem stA_other (n:Nat):stA (stOther n)=(stA (stEntry n)).setIfInBounds 19 (.bool true):=rfl
theorem StOk.other (n:Nat) (hn:n≤8):StOk (stOther n):=⟨rfl,Nat.lt_of_lt_of_le (zh6 hn) (by decide)⟩
theorem zu12 (n:Nat) (hn:n≤8) (w:World) :
  Calls Tryz.prog 101 #[.int .i64 n] w fun e w'=>e=.returned (.agg (stA (stOther n)))∧Below w.heap.size w w':=by
 have HF:=hD (fun w=>zk11 n hn w)
 have HS:=hD (zh (StOk.entry n hn))
 have H1:=hD (zu1 (stEntry n))
 have HS2:=hD (zh (StOk.other n hn))
 have H12:=hD (zu1 (stOther n))
 have HA:=ze3 (StOk.entry n hn)
 have HO:=hD (stA_other n)
 generalize stA (stEntry n)=A at HF HS H1 HO HA ⊢
 generalize stA (stOther n)=C at HO HS2 H12 ⊢
 have HB0:=hD (fun o=>za w o)
 have HX0:=hD (fun cs=>Box.new w 58 cs)
 go_enter Tryz.func101,Tryz.ntmps101
 go_upto_region 1 with(fail)
 obtain⟨Z,hZ⟩:∃ Z:Array Value,#[.int .u32 0,.int .i64 0,.int .i64 0,.int .i64 0,.int .i64 0,.int .i64 0,.int .i64 0,.int .i64 0,.int .i64 0,.int .i64 0,.int .i64 0,.int .i64 0,.int .i64 0,.int .i64 0,.int .i64 0,.int .i64 0,.int .i64 0,.int .i64 0,.int .i64 0,.bool false,.bool false]=Z:=⟨_,rfl⟩
 have HZ:Hid (Z.size=21):=hD (by rw [← hZ];rfl)
 rw [hZ]
 have HB:=hD (HB0.out (.cells Z 58))
 have HX:=hD (HX0.out Z)
 clear HB0 HX0
 have HZE:=hD hZ
 clear hZ
 obtain⟨w1,hw1⟩:∃ w1,w.alloc (.cells Z 58)=w1:=⟨_,rfl⟩
 rw [hw1] at HB HX ⊢
 clear hw1
 obtain⟨g,hg⟩:∃ g,w.heap.size=g:=⟨_,rfl⟩
 have HG:=hD HB.out.size
 rw [hg] at HB HX HG ⊢
 have HL:=hD HX.out.lt
 go_upto_region 2 with(first | (go_at_call 54;refine(HF.out _).mono ?_;rintro e1 w2 ⟨rfl,hb2⟩;have HX2:=hD (HX.out.below hb2 HL.out);have HB2:=hD (HB.out.trans (hb2.mono HG.out));clear hb2 HX HB) | (refine zj1 rfl (.tmp 3) (.tmp 5) rfl w2.heap.size A _ rfl rfl (Box.new w2 58 _) HS.out rfl H1.out ?_))
 have HL2:=hD HX2.out.lt
 have HX3:=hD ((HX2.out.alloc (.cells #[.int .u32 0,.int .i64 0,.int .i64 0,.int .i64 0,.int .i64 0,.int .i64 0,.int .i64 0,.int .i64 0,.int .i64 0,.int .i64 0,.int .i64 0,.int .i64 0,.int .i64 0,.int .i64 0,.int .i64 0,.int .i64 0,.int .i64 0,.int .i64 0,.int .i64 0,.bool false,.bool false] 58)).row_far (Nat.ne_of_lt HL2.out) A)
 have HY3:=hD ((Box.new w2 58 #[.int .u32 0,.int .i64 0,.int .i64 0,.int .i64 0,.int .i64 0,.int .i64 0,.int .i64 0,.int .i64 0,.int .i64 0,.int .i64 0,.int .i64 0,.int .i64 0,.int .i64 0,.int .i64 0,.int .i64 0,.int .i64 0,.int .i64 0,.int .i64 0,.int .i64 0,.bool false,.bool false]).row A)
 have HB3:=hD (zx (HB2.out.alloc (Nat.le_of_lt HL2.out) (.cells #[.int .u32 0,.int .i64 0,.int .i64 0,.int .i64 0,.int .i64 0,.int .i64 0,.int .i64 0,.int .i64 0,.int .i64 0,.int .i64 0,.int .i64 0,.int .i64 0,.int .i64 0,.int .i64 0,.int .i64 0,.int .i64 0,.int .i64 0,.int .i64 0,.int .i64 0,.bool false,.bool false] 58)) (Nat.le_of_lt HL2.out) A)
 obtain⟨w3,hw3⟩:∃ w3,(w2.alloc (.cells #[.int .u32 0,.int .i64 0,.int .i64 0,.int .i64 0,.int .i64 0,.int .i64 0,.int .i64 0,.int .i64 0,.int .i64 0,.int .i64 0,.int .i64 0,.int .i64 0,.int .i64 0,.int .i64 0,.int .i64 0,.int .i64 0,.int .i64 0,.int .i64 0,.int .i64 0,.bool false,.bool false] 58)).setRow w2.heap.size A=w3:=⟨_,rfl⟩
 rw [hw3] at HX3 HY3 HB3 ⊢
 clear hw3 HX2 HB2
 obtain⟨k,hk⟩:∃ k,w2.heap.size=k:=⟨_,rfl⟩
 rw [hk] at HY3 HL2 ⊢
 have c1:=HY3.out.cell 19
 have z1:=HY3.out.frozen 19
 rw [HA] at c1
 clear HA
 have HY4:=hD (HY3.out.set_ 19 (.bool true))
 have HX4:=hD (HX3.out.far (p:=⟨k,19,none⟩) (Nat.ne_of_lt HL2.out) (.bool true))
 have HB4:=hD (HB3.out.setCell (p:=⟨k,19,none⟩) (Nat.le_of_lt HL2.out) (.bool true))
 rw [← HO.out] at HY4
 go_upto_region 3 with(fail)
 obtain⟨w4,hw4⟩:∃ w4,w3.setCell ⟨k,19,none⟩ (.bool true)=w4:=⟨_,rfl⟩
 rw [hw4] at HX4 HY4 HB4 ⊢
 clear hw4 c1 z1
 go_wp2_with (first | (refine zf rfl (.tmp 3) rfl k rfl C HY4.out HS2.out ?_) | (refine zj1 rfl (.tmp 2) (.tmp 7) rfl g C Z rfl rfl HX4.out HS2.out HZ.out H12.out ?_))
 exact bodyPost_ret (zj3 rfl _ _ g C rfl (HX4.out.row C) HS2.out) rfl ⟨rfl,by rw [hg];exact zx HB4.out (Nat.le_refl _) C⟩
theorem za6 (s:VSt) (k:Nat):stA (regV s k)=(stA s).setIfInBounds 0 (.int .u32 ((s.x ||| 2 ^ k:Nat):Int)):=by
 unfold regV
 rw [Int.toNat_natCast]
 rfl
theorem zz18 {s:VSt} (h:StOk s) (k:Nat) (hk:k<16):stA { s with y:=s.y.set k 1 }=(stA s).setIfInBounds (2+k) (.int .i64 1):=by
 obtain⟨x,env,y,left,alt,neck⟩:=s
 obtain⟨y0,y1,y2,y3,y4,y5,y6,y7,y8,y9,y10,y11,y12,y13,y14,y15,rfl⟩:=zm1 y h.y
 have h:k=0 ∨ k=1 ∨ k=2 ∨ k=3 ∨ k=4 ∨ k=5 ∨ k=6 ∨ k=7 ∨ k=8 ∨ k=9 ∨ k=10 ∨ k=11 ∨ k=12 ∨ k=13 ∨ k=14 ∨ k=15:=by omega
 rcases h with rfl | rfl | rfl | rfl | rfl | rfl | rfl | rfl | rfl | rfl | rfl | rfl | rfl | rfl | rfl | rfl <;> rfl
theorem or_is (x k:Nat) (hx:x<2 ^ 16) (hk:k<16):bits .or .u32 (x:Int) ((2:Int) ^ k % 4294967296)=((x ||| 2 ^ k:Nat):Int):=by
 have h2:(2:Nat) ^ k<2 ^ 16:=Nat.pow_lt_pow_right (by decide) hk
 have e:(2:Int) ^ k % 4294967296=((2 ^ k:Nat):Int):=by
  have:((2 ^ k:Nat):Int)=(2:Int) ^ k:=by push_cast;rfl
  rw [← this]
  generalize (2:Nat) ^ k=m at h2
  omega
 rw [e]
 exact u32_or_nat x (2 ^ k) (by omega) (by omega)
theorem become_x {s:VSt} (hs:StOk s) (k:Nat) (hk:k<16) (w:World) (g:Nat) (hb:Box w g 58 (stA s)) :
  Calls Tryz.prog 131 #[.pointer (some ⟨g,0,none⟩),.int .i64 k] w fun e w'=>e=.returned (.tuple #[])∧Fr (fun j=>j=g) w w'∧Box w' g 58 (stA (regV s k)):=by
 have hmin:min k 32=k:=by omega
 have HV:=hD (or_is s.x k hs.x hk)
 have HS:=hD (za6 s k)
 have c0:=hb.cell 0
 have z0:=hb.frozen 0
 rw [stA_x] at c0
 have HB:=hD hb
 clear hb
 generalize stA (regV s k)=C at HS ⊢
 generalize stA s=A at HS HB
 generalize s.x=x at c0 HV HS
 go_enter Tryz.func131,Tryz.ntmps131
 go_wp2_with fail
 go_region
 all_goals go_wp2
 all_goals exact bodyPost_end (results_none rfl _ _ _) rfl ⟨rfl,((Fr.refl (fun j=>j=g) w).setCell (p:=⟨g,0,none⟩) (.inl rfl) _).drew,by rw [HS.out,← HV.out];exact(HB.out.set_ 0 _).drew⟩
theorem become_y {s:VSt} (hs:StOk s) (k:Nat) (hk:k<16) (w:World) (g:Nat) (hb:Box w g 58 (stA s)) :
  Calls Tryz.prog 131 #[.pointer (some ⟨g,0,none⟩),.int .i64 ((k:Int)+16)] w fun e w'=>e=.returned (.tuple #[])∧Fr (fun j=>j=g) w w'∧Box w' g 58 (stA { s with y:=s.y.set k 1 }):=by
 have HS:=hD (zz18 hs k hk)
 have c0:=hb.cell (2+k)
 have z0:=hb.frozen (2+k)
 rw [stA_y hs k hk] at c0
 have HB:=hD hb
 clear hb
 generalize stA { s with y:=s.y.set k 1 }=C at HS ⊢
 generalize stA s=A at HS HB
 generalize yAt s k=v at c0
 have e1:(k:Int)+16 - 16=k:=by omega
 have e2:¬ ((k:Int)+16<16):=by omega
 go_enter Tryz.func131,Tryz.ntmps131
 go_wp2_with fail
 exact bodyPost_end (results_none rfl _ _ _) rfl ⟨rfl,(Fr.refl (fun j=>j=g) w).setCell (p:=⟨g,2+k,none⟩) (.inl rfl) _,by rw [HS.out];exact HB.out.set_ (2+k) (.int .i64 1)⟩
theorem zw7 (op:Int) (w:World) :
  Calls Tryz.prog 122 #[.int .i64 op] w fun e w'=>e=.returned (.bool (decide (op=21) || decide (op=22)))∧w=w':=by
 obtain⟨res,hres⟩:∃ res,(decide (op=21) || decide (op=22))=res:=⟨_,rfl⟩
 rw [hres]
 have HR:=hD hres
 clear hres
 by_cases h0:op=21
 ·subst h0
  go_enter Tryz.func122,Tryz.ntmps122
  go_wp2
  go_ret
  exact⟨by rw [← HR.out];rfl,rfl⟩
 by_cases h1:op=22
 ·subst h1
  go_enter Tryz.func122,Tryz.ntmps122
  go_wp2
  go_ret
  exact⟨by rw [← HR.out];rfl,rfl⟩
 have HT:Hid (res=false):=hD (by rw [← HR.out,decide_eq_false h0,decide_eq_false h1];rfl)
 clear HR
 have e0:(op == 21)=false:=beq_eq_false_iff_ne.2 h0
 have e1:(op == 22)=false:=beq_eq_false_iff_ne.2 h1
 go_enter Tryz.func122,Tryz.ntmps122
 go_wp2
 go_ret
 exact⟨by rw [HT.out];rfl,rfl⟩
theorem zb20 (op:Int) (w:World) :
  Calls Tryz.prog 123 #[.int .i64 op] w fun e w'=>e=.returned (.bool (decide (op=6) || decide (op=7) || decide (op=8) || decide (op=9)))∧w=w':=by
 obtain⟨res,hres⟩:∃ res,(decide (op=6) || decide (op=7) || decide (op=8) || decide (op=9))=res:=⟨_,rfl⟩
 rw [hres]
 have HR:=hD hres
 clear hres
 by_cases h0:op=6
 ·subst h0
  go_enter Tryz.func123,Tryz.ntmps123
  go_wp2
  go_ret
  exact⟨by rw [← HR.out];rfl,rfl⟩
 by_cases h1:op=7
 ·subst h1
  go_enter Tryz.func123,Tryz.ntmps123
  go_wp2
  go_ret
  exact⟨by rw [← HR.out];rfl,rfl⟩
 by_cases h2:op=8
 ·subst h2
  go_enter Tryz.func123,Tryz.ntmps123
  go_wp2
  go_ret
  exact⟨by rw [← HR.out];rfl,rfl⟩
 by_cases h3:op=9
 ·subst h3
  go_enter Tryz.func123,Tryz.ntmps123
  go_wp2
  go_ret
  exact⟨by rw [← HR.out];rfl,rfl⟩
 have HT:Hid (res=false):=hD (by rw [← HR.out,decide_eq_false h0,decide_eq_false h1,decide_eq_false h2,decide_eq_false h3];rfl)
 clear HR
 have e0:(op == 6)=false:=beq_eq_false_iff_ne.2 h0
 have e1:(op == 7)=false:=beq_eq_false_iff_ne.2 h1
 have e2:(op == 8)=false:=beq_eq_false_iff_ne.2 h2
 have e3:(op == 9)=false:=beq_eq_false_iff_ne.2 h3
 go_enter Tryz.func123,Tryz.ntmps123
 go_wp2
 go_ret
 exact⟨by rw [HT.out];rfl,rfl⟩
theorem zk19 (p s e n l:Int) (w:World) :
  Calls Tryz.prog 130 #[.agg #[.int .i64 p,.int .i64 s,.int .i64 e],.int .i64 n,.int .i64 l] w fun r w'=>r=.returned (.bool (decide (n<l) && decide (l<e)))∧Below w.heap.size w w':=by
 have HB:=hD (za w (.cells #[.int .i64 p,.int .i64 s,.int .i64 e] 128))
 by_cases h1:n<l
 ·by_cases h2:l<e
  ·have HR:Hid ((decide (n<l) && decide (l<e))=true):=hD (by rw [decide_eq_true h1,decide_eq_true h2];rfl)
   generalize (decide (n<l) && decide (l<e))=res at HR ⊢
   go_enter Tryz.func130,Tryz.ntmps130
   go_wp2
   go_ret
   exact⟨by rw [HR.out];rfl,HB.out⟩
  ·have HR:Hid ((decide (n<l) && decide (l<e))=false):=hD (by rw [decide_eq_false h2,Bool.and_false])
   generalize (decide (n<l) && decide (l<e))=res at HR ⊢
   go_enter Tryz.func130,Tryz.ntmps130
   go_wp2
   go_ret
   exact⟨by rw [HR.out];rfl,HB.out⟩
 ·have HR:Hid ((decide (n<l) && decide (l<e))=false):=hD (by rw [decide_eq_false h1,Bool.false_and])
  generalize (decide (n<l) && decide (l<e))=res at HR ⊢
  go_enter Tryz.func130,Tryz.ntmps130
  go_wp2
  go_ret
  exact⟨by rw [HR.out];rfl,HB.out⟩
end Go.Proofs.YtlmbiafloiompaaGreatDoor

namespace Go.Proofs.YtlmbiafloiompaaGreatDoor
def mixTo (y z:List Int) (k:Nat):List Int:=List.zipWith mixY (y.take k) (z.take k) ++ y.drop k
theorem zg20 (y z:List Int):mixTo y z 0=y:=by simp [mixTo]
theorem mixTo_all (y z:List Int) (h:y.length=z.length):mixTo y z y.length=List.zipWith mixY y z:=by
 have e:z.take y.length=z:=by rw [h,List.take_length]
 simp [mixTo,e]
theorem zf8 (y z:List Int) (h:y.length=z.length) (k:Nat):(mixTo y z k).length=y.length:=by
 simp [mixTo]
 omega
theorem za13 (y z:List Int) (h:y.length=z.length) (k:Nat) (hk:k<y.length):(mixTo y z k).getD k 0=y.getD k 0:=by
 have hz:k<z.length:=by omega
 have hl:(List.zipWith mixY (y.take k) (z.take k)).length=k:=by simp;omega
 simp only [mixTo,List.getD_eq_getElem?_getD]
 rw [List.getElem?_append_right (by omega),hl,Nat.sub_self,List.getElem?_drop,Nat.add_zero]
theorem zn7 (y z:List Int) (h:y.length=z.length) (k:Nat) (hk:k<y.length):mixTo y z (k+1)=(mixTo y z k).set k (mixY (y.getD k 0) (z.getD k 0)):=by
 have hz:k<z.length:=by omega
 have hl:(List.zipWith mixY (y.take k) (z.take k)).length=k:=by simp;omega
 have ey:y.getD k 0=y[k]:=by simp [hk]
 have ez:z.getD k 0=z[k]:=by simp [hz]
 unfold mixTo
 rw [List.set_append_right _ _ (by omega),hl,Nat.sub_self,List.take_succ_eq_append_getElem hk,List.take_succ_eq_append_getElem hz,List.zipWith_append (by simp;omega),List.append_assoc,List.drop_eq_getElem_cons hk,ey,ez]
 rfl
theorem zt11 (y z:List Int) (h:y.length=z.length) (k:Nat) (hk:k<y.length) (e:y.getD k 0=z.getD k 0):mixTo y z (k+1)=mixTo y z k:=by
 rw [zn7 y z h k hk]
 have hm:mixY (y.getD k 0) (z.getD k 0)=(mixTo y z k).getD k 0:=by
  rw [za13 y z h k hk]
  unfold mixY
  rw [if_pos e]
 have hk':k<(mixTo y z k).length:=by rw [zf8 y z h];exact hk
 rw [hm]
 have:(mixTo y z k).getD k 0=(mixTo y z k)[k]:=by simp [hk']
 rw [this,List.set_getElem_self]
end Go.Proofs.YtlmbiafloiompaaGreatDoor

namespace Go.Proofs.YtlmbiafloiompaaGreatDoor
open Go
theorem zi4 (o:Ob) (n:Int):∀ m,(((List.range m).foldl (ownStep o n) (-1) = -1∧∀ k,k<m→¬ entP o (k:Int)≤n) ∨
  (∃ j:Nat,j<m∧(List.range m).foldl (ownStep o n) (-1)=(j:Int)∧entP o (j:Int)≤n∧∀ k,k<m→entP o (k:Int)≤n→entP o (k:Int)≤entP o (j:Int)))
 | 0=>.inl ⟨rfl,fun k h=>absurd h (by omega)⟩
 | m+1=>by
  rw [List.range_succ,List.foldl_append]
  show(ownStep o n _ m = -1∧_) ∨ _
  rcases zi4 o n m with⟨h1,h2⟩ | ⟨j,hj,h1,h2,h3⟩
  ·by_cases h:entP o (m:Int)≤n
   ·right
    refine⟨m,by omega,?_,h,fun k hk hkn=>?_⟩
    ·show ownStep o n _ m=_
     rw [h1,ownStep,if_pos ⟨h,.inl (by decide)⟩]
    ·by_cases e:k=m
     ·subst e;exact Int.le_refl _
     ·exact absurd hkn (h2 k (by omega))
   ·left
    refine⟨by rw [h1,ownStep,if_neg (fun x=>h x.1)],fun k hk hkn=>?_⟩
    by_cases e:k=m
    ·subst e;exact h hkn
    ·exact h2 k (by omega) hkn
  ·right
   by_cases h:entP o (m:Int)≤n∧entP o (j:Int)<entP o (m:Int)
   ·refine⟨m,by omega,?_,h.1,fun k hk hkn=>?_⟩
    ·show ownStep o n _ m=_
     rw [h1,ownStep,if_pos ⟨h.1,.inr h.2⟩]
    ·by_cases e:k=m
     ·subst e;exact Int.le_refl _
     ·have:=h3 k (by omega) hkn
      omega
   ·refine⟨j,by omega,?_,h2,fun k hk hkn=>?_⟩
    ·show ownStep o n _ m=_
     rw [h1,ownStep,if_neg]
     rintro⟨x1,x2⟩
     rcases x2 with x2 | x2
     ·omega
     ·exact h ⟨x1,x2⟩
    ·by_cases e:k=m
     ·subst e
      by_cases x:entP o (j:Int)<entP o (k:Int)
      ·exact absurd ⟨hkn,x⟩ h
      ·omega
     ·exact h3 k (by omega) hkn
theorem zu8 (c:Int):∀ (l:List (ByteArray × Int × Int)) (m:Int),(l.foldl (fun m p=>min m p.2.2) m=m ∨ ∃ p ∈ l,l.foldl (fun m p=>min m p.2.2) m=p.2.2)∧l.foldl (fun m p=>min m p.2.2) m≤m∧∀ p ∈ l,l.foldl (fun m p=>min m p.2.2) m≤p.2.2
 | [],m=>⟨.inl rfl,Int.le_refl _,fun p hp=>by cases hp⟩
 | q :: l,m=>by
  obtain⟨h1,h2,h3⟩:=zu8 c l (min m q.2.2)
  rw [List.foldl_cons]
  refine⟨?_,by omega,fun p hp=>?_⟩
  ·rcases h1 with h1 | ⟨p,hp,h1⟩
   ·rw [h1]
    by_cases h:m≤q.2.2
    ·left;omega
    ·right;exact⟨q,List.mem_cons_self,by omega⟩
   ·exact .inr ⟨p,List.mem_cons_of_mem _ hp,h1⟩
  ·rcases List.mem_cons.1 hp with rfl | hp
   ·omega
   ·exact h3 p hp
def nextEnt (n:Nat):List (ByteArray × Int × Int)→Int
 | []=>(n:Int)
 | p :: _=>p.2.2
theorem place_in {o:Ob} {A L:List (ByteArray × Int × Int)} {p:ByteArray × Int × Int} (hperm:(A ++ p :: L).Perm o.preds) (hs:(A ++ p :: L).Pairwise (fun p q=>p.2.2<q.2.2)) {n:Int} (h0:p.2.2≤n) (h1:n<nextEnt o.code.length L) (hlt:∀ q ∈ o.preds,q.2.2<(o.code.length:Int)) :
  (∃ j:Nat,ownV o n=(j:Int)∧o.preds[j]?=some p)∧stopV o n=nextEnt o.code.length L:=by
 rw [List.pairwise_append] at hs
 obtain⟨hA,hpL,hAL⟩:=hs
 rw [List.pairwise_cons] at hpL
 obtain⟨hp,hL⟩:=hpL
 have hmem:∀ q,q ∈ o.preds ↔ q ∈ A ∨ q=p ∨ q ∈ L:=fun q=>by rw [← hperm.mem_iff];simp
 have hless:∀ q ∈ L,n<q.2.2:=by
  intro q hq
  cases L with
  | nil=>cases hq
  | cons r L'=>
   have hr:n<r.2.2:=h1
   rcases List.mem_cons.1 hq with rfl | hq
   ·exact hr
   ·rw [List.pairwise_cons] at hL
    have:=hL.1 q hq
    omega
 constructor
 ·have hent:∀ k:Nat,k<o.preds.length→∃ q ∈ o.preds,o.preds[k]?=some q∧entP o (k:Int)=q.2.2:=fun k hk=>⟨o.preds[k],List.getElem_mem hk,List.getElem?_eq_getElem hk,by unfold entP;rw [Int.toNat_natCast,List.getD_eq_getElem?_getD,List.getElem?_eq_getElem hk];rfl⟩
  obtain⟨i,hi,hpi⟩:=List.getElem_of_mem ((hmem p).2 (.inr (.inl rfl)))
  have hei:entP o (i:Int)=p.2.2:=by
   obtain⟨q,_,h2,h3⟩:=hent i hi
   rw [List.getElem?_eq_getElem hi,hpi] at h2
   injection h2 with h2
   rw [h3,h2]
  unfold ownV
  rcases zi4 o n o.preds.length with⟨_,h2⟩ | ⟨j,hj,h2,h3,h4⟩
  ·exact absurd (by rw [hei];exact h0) (h2 i hi)
  ·refine⟨j,h2,?_⟩
   obtain⟨q,hq,h5,h6⟩:=hent j hj
   have h7:=h4 i hi (by rw [hei];exact h0)
   rw [hei,h6] at h7
   rw [h6] at h3
   rw [h5]
   congr 1
   rcases(hmem q).1 hq with hq' | hq' | hq'
   ·have:=hAL q hq' p List.mem_cons_self
    omega
   ·exact hq'
   ·have:=hless q hq'
    omega
 ·unfold stopV
  obtain⟨h2,h3,h4⟩:=zu8 0 (o.preds.filter fun p=>decide (n<p.2.2)) (o.code.length:Int)
  cases L with
  | nil=>
   rcases h2 with h2 | ⟨q,hq,h2⟩
   ·exact h2
   ·rw [List.mem_filter] at hq
    obtain⟨hq1,hq2⟩:=hq
    have hq3:n<q.2.2:=by simpa using hq2
    rcases(hmem q).1 hq1 with x | x | x
    ·have:=hAL q x p List.mem_cons_self
     omega
    ·subst x;omega
    ·cases x
  | cons r L'=>
   have hr:n<r.2.2:=h1
   have hrm:r ∈ o.preds:=(hmem r).2 (.inr (.inr List.mem_cons_self))
   have h5:=h4 r (List.mem_filter.2 ⟨hrm,by simpa using hr⟩)
   show _=r.2.2
   rcases h2 with h2 | ⟨q,hq,h2⟩
   ·have:=hlt r hrm
    omega
   ·rw [List.mem_filter] at hq
    obtain⟨hq1,hq2⟩:=hq
    have hq3:n<q.2.2:=by simpa using hq2
    rcases(hmem q).1 hq1 with x | x | x
    ·have:=hAL q x p List.mem_cons_self
     omega
    ·subst x;omega
    ·rcases List.mem_cons.1 x with rfl | x
     ·omega
     ·rw [List.pairwise_cons] at hL
      have:=hL.1 q x
      omega
def runS (o:Ob) (ar stop:Int):Nat→Nat→List VPl→Except Nat (List VPl)
 | 0,_,P=>.ok P
 | f+1,n,P=>
  match passV o ar stop n P with
  | none=>.error n
  | some Q=>runS o ar stop f (n+1) Q
def faultP (o:Ob):List (ByteArray × Int × Int)→Nat→List VPl→Except Nat (Nat × List VPl)
 | [],n,P=>.ok (n,P)
 | p :: L,n,P=>
  if (n:Int)<p.2.2 then .error n
  else match runS o p.2.1 (nextEnt o.code.length L) (nextEnt o.code.length L - n).toNat n (bringV P p.2.2 (stEntry p.2.1.toNat)) with
   | .error m=>.error m
   | .ok Q=>faultP o L (nextEnt o.code.length L).toNat Q
theorem zu2 (P:List VPl) (t:Int) (s:VSt) (j:Nat):(bringV P t s)[j]?=if t.toNat=j then(P[j]?).map (fun p=>comeV p s) else P[j]?:=by
 unfold bringV
 rw [List.getElem?_modify]
 split
 ·rfl
 ·cases P[j]? <;> rfl
theorem zw1 (P:List VPl) (t:Int) (s:VSt):(bringV P t s).length=P.length:=by unfold bringV;simp
structure StepV (stop:Int) (n:Nat) (P Q P' Q':List VPl):Prop where
 low:∀ j:Nat,(j:Int)<stop→Q'[j]?=P'[j]?
 highP:∀ j:Nat,stop≤(j:Int)→P'[j]?=P[j]?
 highQ:∀ j:Nat,stop≤(j:Int)→Q'[j]?=Q[j]?
 old:∀ j:Nat,j≤n→P'[j]?=P[j]?
 lenP:P'.length=P.length
 lenQ:Q'.length=Q.length
theorem StepV.bring {stop:Int} {n:Nat} {P Q P' Q':List VPl} (h:StepV stop n P Q P' Q') {t:Int} (h0:(n:Int)<t) (h1:t<stop) (s:VSt):StepV stop n P Q (bringV P' t s) (bringV Q' t s):=by
 refine⟨fun j hj=>?_,fun j hj=>?_,fun j hj=>?_,fun j hj=>?_,by rw [zw1,h.lenP],by rw [zw1,h.lenQ]⟩
 ·rw [zu2,zu2,h.low j hj]
 ·rw [zu2,if_neg (by omega),h.highP j hj]
 ·rw [zu2,if_neg (by omega),h.highQ j hj]
 ·rw [zu2,if_neg (by omega),h.old j hj]
theorem StepV.brings {stop:Int} {n:Nat} {P Q:List VPl} (f:Int→VSt):∀ (l:List Int) (P' Q':List VPl),StepV stop n P Q P' Q'→(∀ t ∈ l,(n:Int)<t∧t<stop)→StepV stop n P Q (l.foldl (fun R t=>bringV R t (f t)) P') (l.foldl (fun R t=>bringV R t (f t)) Q')
 | [],_,_,h,_=>h
 | t :: l,P',Q',h,ht=>by
  rw [List.foldl_cons,List.foldl_cons]
  have h1:=ht t List.mem_cons_self
  exact StepV.brings f l _ _ (h.bring h1.1 h1.2 (f t)) (fun u hu=>ht u (List.mem_cons_of_mem _ hu))
theorem pass_sim {o:Ob} {ar stop:Int} {n:Nat} {P Q:List VPl} (hn:(n:Int)<stop) (h:∀ j:Nat,(j:Int)<stop→Q[j]?=P[j]?) :
  (passV o ar stop n P=none∧passV o ar stop n Q=none) ∨ ∃ P' Q',passV o ar stop n P=some P'∧passV o ar stop n Q=some Q'∧StepV stop n P Q P' Q':=by
 have hp:Q.getD n plZero=P.getD n plZero:=by rw [List.getD_eq_getElem?_getD,List.getD_eq_getElem?_getD,h n hn]
 unfold passV
 simp only
 rw [hp]
 generalize P.getD n plZero=p
 generalize o.code.getD n (0,0,0,0,0)=i
 by_cases hc:p.bad=true ∨ p.here=false ∨ asksV o ar i p.s=false ∨ leadsV stop n i=false
 ·left
  rw [if_pos hc,if_pos hc]
  exact⟨rfl,rfl⟩
 ·right
  rw [if_neg hc,if_neg hc]
  have hl:leadsV stop n i=true:=by
   cases hx:leadsV stop n i with
   | true=>rfl
   | false=>exact absurd (.inr (.inr (.inr hx))) hc
  unfold leadsV at hl
  rw [Bool.and_eq_true] at hl
  have h0:StepV stop n P Q P Q:=⟨h,fun _ _=>rfl,fun _ _=>rfl,fun _ _=>rfl,rfl,rfl⟩
  have hlab:∀ t ∈ labsV i,(n:Int)<t∧t<stop:=fun t ht=>by
   have:=List.all_eq_true.1 hl.2 t ht
   simpa using this
  refine⟨_,_,rfl,rfl,?_⟩
  refine StepV.brings (fun _=>if i.1=26 then makesV o i p.s else stOther ar.toNat) (labsV i) _ _ ?_ hlab
  by_cases ho:onV i.1=true
  ·rw [if_pos ho,if_pos ho]
   have h1:=hl.1
   rw [ho] at h1
   have h2:(n:Int)+1<stop:=by simpa using h1
   exact h0.bring (by omega) h2 _
  ·rw [if_neg ho,if_neg ho]
   exact h0
structure RelV (o:Ob) (L:List (ByteArray × Int × Int)) (stop:Int) (n:Nat) (P Q:List VPl) (l:List VSt):Prop where
 lenP:P.length=o.code.length
 lenQ:Q.length=o.code.length
 low:∀ j:Nat,(j:Int)<stop→Q[j]?=P[j]?
 bare:∀ j:Nat,stop≤(j:Int)→j<o.code.length→P[j]?=some plZero
 ents:∀ p ∈ L,Q[p.2.2.toNat]?=some ⟨true,false,stEntry p.2.1.toNat⟩
 rest:∀ j:Nat,stop≤(j:Int)→j<o.code.length→(∀ p ∈ L,p.2.2.toNat≠j)→Q[j]?=some plZero
 len:l.length=n
 told:∀ j:Nat,j<n→l[j]?=(P[j]?).map (·.s)
theorem run_sim {o:Ob} {ar stop:Int} {L:List (ByteArray × Int × Int)} (hL:∀ p ∈ L,stop≤p.2.2) (hst:stop≤(o.code.length:Int)) (hown:∀ n:Nat,(n:Int)<stop→True) :
  ∀ (f n:Nat) (P Q:List VPl) (l:List VSt),(n:Int)+f=stop→(∀ m:Nat,n≤m→(m:Int)<stop→arityP o (ownV o m)=ar∧stopV o m=stop)→RelV o L stop n P Q l →
   match runS o ar stop f n P with
   | .error m=>walkV o (o.code.length - n) n Q l=.error m
   | .ok P'=>∃ Q' l',walkV o (o.code.length - n) n Q l=walkV o (o.code.length - (n+f)) (n+f) Q' l'∧RelV o L stop (n+f) P' Q' l'
 | 0,n,P,Q,l,hf,hs,h=>⟨Q,l,rfl,h⟩
 | f+1,n,P,Q,l,hf,hs,h=>by
  have hn:(n:Int)<stop:=by omega
  have hnl:n<o.code.length:=by omega
  obtain⟨e1,e2⟩:=hs n (Nat.le_refl _) hn
  have hw:o.code.length - n=(o.code.length - (n+1))+1:=by omega
  rw [runS,hw,walkV,e1,e2]
  rcases pass_sim (o:=o) (ar:=ar) hn h.low with⟨h1,h2⟩ | ⟨P',Q',h1,h2,h3⟩
  ·rw [h1,h2]
  ·rw [h1,h2]
   simp only
   have hrel:RelV o L stop (n+1) P' Q' (l ++ [(Q.getD n plZero).s]):=by
    refine⟨h3.lenP.trans h.lenP,h3.lenQ.trans h.lenQ,h3.low,fun j hj hjl=>(h3.highP j hj).trans (h.bare j hj hjl),fun p hp=>?_,fun j hj hjl hne=>(h3.highQ j hj).trans (h.rest j hj hjl hne),by rw [List.length_append,h.len];rfl,fun j hj=>?_⟩
    ·rw [h3.highQ _ (by have:=hL p hp;omega)]
     exact h.ents p hp
    ·by_cases e:j=n
     ·subst e
      have hQ:Q.getD j plZero=(Q[j]?).getD plZero:=by rw [List.getD_eq_getElem?_getD]
      rw [List.getElem?_append_right (by rw [h.len];exact Nat.le_refl _),h.len,Nat.sub_self,hQ,h.low j hn,h3.old j (Nat.le_refl _)]
      have hjP:j<P.length:=by rw [h.lenP];exact hnl
      rw [List.getElem?_eq_getElem hjP]
      rfl
     ·rw [List.getElem?_append_left (by rw [h.len];omega),h.told j (by omega),h3.old j (by omega)]
   have ih:=run_sim hL hst hown f (n+1) P' Q' _ (by omega) (fun m hm hms=>hs m (by omega) hms) hrel
   have hadd:n+1+f=n+(f+1):=by omega
   rw [hadd] at ih
   exact ih
theorem zg14 {o:Ob} (hlt:∀ q ∈ o.preds,0≤q.2.2∧q.2.2<(o.code.length:Int)) :
  ∀ (L A:List (ByteArray × Int × Int)) (n:Nat) (P Q:List VPl) (l:List VSt),(A ++ L).Perm o.preds→(A ++ L).Pairwise (fun p q=>p.2.2<q.2.2)→(∀ q ∈ L,(n:Int)≤q.2.2)→n≤o.code.length→RelV o L n n P Q l →
   match faultP o L n P with
   | .error m=>walkV o (o.code.length - n) n Q l=.error m
   | .ok (m,P')=>∃ Q' l',m≤o.code.length∧walkV o (o.code.length - n) n Q l=walkV o (o.code.length - m) m Q' l'∧RelV o [] m m P' Q' l'
 | [],A,n,P,Q,l,hp,hs,hge,hnl,h=>⟨Q,l,hnl,rfl,h⟩
 | p :: L,A,n,P,Q,l,hp,hs,hge,hnl,h=>by
  have hpm:p ∈ o.preds:=hp.mem_iff.1 (by simp)
  obtain⟨hp0,hp1⟩:=hlt p hpm
  have hpn:=hge p List.mem_cons_self
  rw [faultP]
  by_cases hc:(n:Int)<p.2.2
  ·rw [if_pos hc]
   have hnl2:n<o.code.length:=by omega
   have hs2:=(List.pairwise_append.1 hs).2.1
   rw [List.pairwise_cons] at hs2
   have hz:Q[n]?=some plZero:=h.rest n (Int.le_refl _) hnl2 (fun q hq=>by
    rcases List.mem_cons.1 hq with rfl | hq
    ·omega
    ·have:=hs2.1 q hq
     omega)
   have hw:o.code.length - n=(o.code.length - n - 1)+1:=by omega
   simp only
   rw [hw,walkV]
   have hno:∀ ar stop,passV o ar stop n Q=none:=by
    intro ar stop
    unfold passV
    simp only
    rw [List.getD_eq_getElem?_getD,hz,Option.getD_some,if_pos (.inr (.inl rfl))]
   rw [hno]
  ·rw [if_neg hc]
   have hpe:p.2.2=(n:Int):=by omega
   have hs2:=(List.pairwise_append.1 hs).2.1
   rw [List.pairwise_cons] at hs2
   have hLn:∀ q ∈ L,(n:Int)<q.2.2:=fun q hq=>by have:=hs2.1 q hq;omega
   have hnl2:n<o.code.length:=by omega
   obtain⟨stop,hstop⟩:∃ stop,nextEnt o.code.length L=stop:=⟨_,rfl⟩
   have hst1:(n:Int)<stop:=by
    rw [← hstop]
    cases L with
    | nil=>show(n:Int)<(o.code.length:Int);omega
    | cons q L=>exact hLn q List.mem_cons_self
   have hst2:stop≤(o.code.length:Int):=by
    rw [← hstop]
    cases L with
    | nil=>exact Int.le_refl _
    | cons q L=>
     have:=(hlt q (hp.mem_iff.1 (by simp))).2
     show q.2.2≤_
     omega
   have hLs:∀ q ∈ L,stop≤q.2.2:=by
    rw [← hstop]
    cases L with
    | nil=>intro q hq;cases hq
    | cons r L=>
     intro q hq
     rcases List.mem_cons.1 hq with rfl | hq
     ·exact Int.le_refl _
     ·have h3:=hs2.2
      rw [List.pairwise_cons] at h3
      have:=h3.1 q hq
      show r.2.2≤_
      omega
   rw [hstop]
   have hPn:P[n]?=some plZero:=h.bare n (Int.le_refl _) hnl2
   have hQn:=h.ents p List.mem_cons_self
   rw [hpe,Int.toNat_natCast] at hQn
   have hrel:RelV o L stop n (bringV P p.2.2 (stEntry p.2.1.toNat)) Q l:=by
    refine⟨by rw [zw1,h.lenP],h.lenQ,fun j hj=>?_,fun j hj hjl=>?_,fun q hq=>h.ents q (List.mem_cons_of_mem _ hq),fun j hj hjl hne=>h.rest j (by omega) hjl (fun q hq=>?_),h.len,fun j hj=>?_⟩
    ·rw [zu2,hpe,Int.toNat_natCast]
     by_cases e:n=j
     ·subst e
      rw [if_pos rfl,hPn,hQn]
      rfl
     ·rw [if_neg e]
      by_cases hjn:j<n
      ·exact h.low j (by omega)
      ·rw [h.bare j (by omega) (by omega),h.rest j (by omega) (by omega) (fun q hq=>?_)]
       rcases List.mem_cons.1 hq with rfl | hq
       ·omega
       ·have:=hLs q hq
        omega
    ·rw [zu2,hpe,Int.toNat_natCast,if_neg (by omega)]
     exact h.bare j (by omega) hjl
    ·rcases List.mem_cons.1 hq with rfl | hq
     ·omega
     ·exact hne q hq
    ·rw [zu2,hpe,Int.toNat_natCast,if_neg (by omega)]
     exact h.told j hj
   have hrun:=run_sim (ar:=p.2.1) hLs hst2 (fun _ _=>trivial) (stop - n).toNat n _ Q l (by omega) (fun m hm hms=>by
    obtain⟨⟨k,hk1,hk2⟩,hk3⟩:=place_in (n:=(m:Int)) hp hs (by omega) (by rw [hstop];exact hms) (fun q hq=>(hlt q hq).2)
    refine⟨?_,by rw [hk3,hstop]⟩
    rw [hk1,arityP,Int.toNat_natCast,List.getD_eq_getElem?_getD,hk2]
    rfl) hrel
   cases hrs:runS o p.2.1 stop (stop - n).toNat n (bringV P p.2.2 (stEntry p.2.1.toNat)) with
   | error m=>
    rw [hrs] at hrun
    exact hrun
   | ok P'=>
    rw [hrs] at hrun
    obtain⟨Q',l',hr1,hr2⟩:=hrun
    have hns:n+(stop - n).toNat=stop.toNat:=by omega
    have hsn:((stop.toNat:Nat):Int)=stop:=by omega
    rw [hns] at hr1 hr2
    have ih:=zg14 hlt L (A ++ [p]) stop.toNat P' Q' l' (by rw [List.append_assoc];exact hp) (by rw [List.append_assoc];exact hs) (fun q hq=>by have:=hLs q hq;omega) (by omega) (by rw [hsn];exact hr2)
    simp only
    cases hfp:faultP o L stop.toNat P' with
    | error m=>
     rw [hfp] at ih
     exact hr1.trans ih
    | ok r=>
     rw [hfp] at ih
     obtain⟨m,P2⟩:=r
     obtain⟨Q2,l2,h1,h2,h3⟩:=ih
     exact⟨Q2,l2,h1,hr1.trans h2,h3⟩
theorem zs10:∀ (L:List (ByteArray × Int × Int)) (P:List VPl),(L.foldl (fun P p=>P.set p.2.2.toNat ⟨true,false,stEntry p.2.1.toNat⟩) P).length=P.length
 | [],P=>rfl
 | p :: L,P=>by rw [List.foldl_cons,zs10 L];simp
theorem zx6:∀ (L:List (ByteArray × Int × Int)) (P:List VPl) (j:Nat),(∀ p ∈ L,p.2.2.toNat≠j)→(L.foldl (fun P p=>P.set p.2.2.toNat ⟨true,false,stEntry p.2.1.toNat⟩) P)[j]?=P[j]?
 | [],P,j,_=>rfl
 | p :: L,P,j,h=>by
  rw [List.foldl_cons,zx6 L _ j (fun q hq=>h q (List.mem_cons_of_mem _ hq)),List.getElem?_set_ne (h p List.mem_cons_self)]
theorem zt15:∀ (L:List (ByteArray × Int × Int)) (P:List VPl),(∀ p ∈ L,p.2.2.toNat<P.length)→(L.map (·.2.2.toNat)).Nodup→∀ p ∈ L,(L.foldl (fun P p=>P.set p.2.2.toNat ⟨true,false,stEntry p.2.1.toNat⟩) P)[p.2.2.toNat]?=some ⟨true,false,stEntry p.2.1.toNat⟩
 | [],P,_,_,p,hp=>by cases hp
 | q :: L,P,hl,hn,p,hp=>by
  rw [List.map_cons,List.nodup_cons] at hn
  rw [List.foldl_cons]
  rcases List.mem_cons.1 hp with rfl | hp
  ·rw [zx6 L _ _ (fun r hr e=>hn.1 (List.mem_map.2 ⟨r,hr,e⟩)),List.getElem?_set_self (hl p List.mem_cons_self)]
  ·exact zt15 L _ (fun r hr=>by rw [List.length_set];exact hl r (List.mem_cons_of_mem _ hr)) hn.2 p hp
def progV (o:Ob) (L:List (ByteArray × Int × Int)):Except Nat (List VSt):=
 match faultP o L 0 (List.replicate o.code.length plZero) with
 | .error m=>.error m
 | .ok (m,P)=>if m<o.code.length then .error m else .ok (P.map (·.s))
theorem progV_eq {o:Ob} {L:List (ByteArray × Int × Int)} (hp:L.Perm o.preds) (hs:L.Pairwise (fun p q=>p.2.2<q.2.2)) (hlt:∀ q ∈ o.preds,0≤q.2.2∧q.2.2<(o.code.length:Int)):progV o L=walkV o o.code.length 0 (startV o) []:=by
 have hn:(o.preds.map (·.2.2.toNat)).Nodup:=by
  have h1:(L.map (·.2.2.toNat)).Nodup:=by
   rw [List.nodup_iff_pairwise_ne,List.pairwise_map]
   refine hs.imp_of_mem ?_
   intro p q hpm hqm hpq
   have:=hlt p (hp.mem_iff.1 hpm)
   have:=hlt q (hp.mem_iff.1 hqm)
   omega
  exact(hp.map _).nodup_iff.1 h1
 have hrel:RelV o L ((0:Nat):Int) 0 (List.replicate o.code.length plZero) (startV o) []:=by
  refine⟨by simp,by unfold startV;rw [zs10];simp,fun j hj=>by omega,fun j _ hjl=>by simp [hjl],fun p hpm=>?_,fun j _ hjl hne=>?_,rfl,fun j hj=>by omega⟩
  ·unfold startV
   exact zt15 o.preds _ (fun q hq=>by have:=hlt q hq;simp;omega) hn p (hp.mem_iff.1 hpm)
  ·unfold startV
   rw [zx6 o.preds _ j (fun q hq=>hne q (hp.mem_iff.2 hq))]
   simp [hjl]
 have h:=zg14 hlt L [] 0 _ _ _ (by simpa using hp) (by simpa using hs) (fun q hq=>by have:=hlt q (hp.mem_iff.1 hq);omega) (Nat.zero_le _) hrel
 unfold progV
 cases hf:faultP o L 0 (List.replicate o.code.length plZero) with
 | error m=>
  rw [hf] at h
  exact h.symm
 | ok r=>
  obtain⟨m,P'⟩:=r
  rw [hf] at h
  obtain⟨Q',l',h1,h2,h3⟩:=h
  rw [Nat.sub_zero] at h2
  rw [h2]
  simp only
  by_cases hm:m<o.code.length
  ·rw [if_pos hm]
   have hz:Q'[m]?=some plZero:=h3.rest m (Int.le_refl _) hm (fun q hq=>by cases hq)
   have hw:o.code.length - m=(o.code.length - m - 1)+1:=by omega
   rw [hw,walkV]
   have hno:∀ ar stop,passV o ar stop m Q'=none:=by
    intro ar stop
    unfold passV
    simp only
    rw [List.getD_eq_getElem?_getD,hz,Option.getD_some,if_pos (.inr (.inl rfl))]
   rw [hno]
  ·rw [if_neg hm]
   obtain rfl:m=o.code.length:=by omega
   rw [Nat.sub_self,walkV]
   congr 1
   apply List.ext_getElem?
   intro j
   rw [List.getElem?_map]
   by_cases hj:j<o.code.length
   ·exact(h3.told j hj).symm
   ·rw [List.getElem?_eq_none (by rw [h3.lenP];omega),List.getElem?_eq_none (by rw [h3.len];omega)]
    rfl
end Go.Proofs.YtlmbiafloiompaaGreatDoor
