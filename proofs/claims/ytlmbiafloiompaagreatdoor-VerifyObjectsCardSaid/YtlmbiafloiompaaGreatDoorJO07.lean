/-
  2 texts in one (AOpen CodeGL). Conditions: those of each theorem.
-/
import Derived.Test.YtlmbiafloiompaaGreatDoorCards
import Derived.Test.YtlmbiafloiompaaGreatDoorTie
import Derived.Test.YtlmbiafloiompaaGreatDoorChecked
import Derived.Test.YtlmbiafloiompaaGreatDoorJO06
import Derived.OpenShut
import Derived.Deep.Slices
import Derived.Deep.Fields
import Derived.Carry
import Derived.WideShapes
import Derived.Laws.IdiomArrays
import Derived.Lib.LaidTab
import Derived.LaidSub
import Derived.LaidLaws
import Derived.MakeChecks
import Derived.LaidMore
import Derived.Deep.DeepHandedRow
import Derived.Test.YtlmbiafloiompaaGreatDoorJO04
set_option linter.unusedVariables false
set_option linter.unusedSimpArgs false
namespace Go.Proofs.YtlmbiafloiompaaGreatDoor
open Go.ChangeShapes Go.WideShapes Go.ChangeAt Go.RowKit Go.Deep
instance:Inhabited Ins:=⟨(0,0,0,0,0)⟩
theorem add_spot8 (a:Addr) (n j:Nat) {w:World} {v:Value} (h:w.cell? ((a.add n).add j)=some v) (ha:a.spot=none):w.cell? ⟨a.block,a.off+n+j,none⟩=some v:=by
 have e:(a.add n).add j=⟨a.block,a.off+n+j,none⟩:=by
  obtain⟨b,o,s⟩:=a
  simp only at ha
  subst ha
  unfold Addr.add
  split <;> split <;> simp_all
 rw [← e]
 exact h
theorem zc21 {a:Addr} {W:World} {v:Value} (h:W.cell? (a.add 0)=some v):a.spot=none:=by
 cases hsp:a.spot with
 | none=>rfl
 | some s=>
  exfalso
  have e:a.add 0=a:=by simp [Addr.add]
  rw [e] at h
  unfold World.cell? at h
  rw [hsp] at h
  split at h <;> simp at h
theorem zh14 {α β:Type} (f:α→List β) (m:Nat) (hf:∀ a,(f a).length=m):∀ l:List α,(l.flatMap f).length=l.length * m
 | []=>by simp
 | a :: l=>by rw [List.flatMap_cons,List.length_append,hf,zh14 f m hf l,List.length_cons,Nat.succ_mul,Nat.add_comm]
theorem zi14 {α β:Type} (f:α→β):∀ l:List α,l.flatMap (fun a=>[f a])=l.map f
 | []=>rfl
 | a :: l=>by rw [List.flatMap_cons,zi14 f l];rfl
section
variable {H:Type} {enc:TypeId × Value→H} {W:World}
theorem zp7 {fuel:Nat} {t:TypeId} {fs:Array Field} {cs:List Value} {x:DataW H × List MemPlace} (hfs:Tryz.prog.underlying t=some (.struct fs)) (hone:oneCellFields Tryz.prog fs=true) (hc:Tryz.prog.cellsOf t=fs.size)
  (h:DataW.trod enc Tryz.prog W 0 (fun _=>true) true fuel t cs=some x):cs.length=fs.size∧∃ n,∀ (j:Nat) (f:Field),fs[j]?=some f→∃ v y,cs[j]?=some v∧DataW.trod enc Tryz.prog W 0 (fun _=>true) true n f.type [v]=some y:=by
 obtain⟨ys,n,rfl,_,hcl,hyl,hf⟩:=DataW.trod_struct hfs h
 rw [hc] at hcl
 refine⟨hcl,n,fun j f hfj=>?_⟩
 have hj:j<fs.size:=(Array.getElem?_eq_some_iff.1 hfj).1
 obtain⟨ho,hk⟩:=hone_of hone j _ hfj
 have hv:cs[j]?=some (cs[j]'(by omega)):=List.getElem?_eq_getElem (by omega)
 have h1:=hf j _ hfj
 rw [ho,hk] at h1
 have h2:(cs.drop j).take 1=[cs[j]'(by omega)]:=by
  rw [List.drop_eq_getElem_cons (by omega)]
  rfl
 rw [h2] at h1
 exact⟨_,ys[j]'(by omega),hv,by rw [h1];exact List.getElem?_eq_getElem (by omega)⟩
set_option maxRecDepth 100000 in
theorem zj13 {α:Type} [Inhabited α] (f:α→List Value) (m:Nat) (hf:∀ a,(f a).length=m) (hm:0<m) (Q:α→Prop) {fuel:Nat} {t e:TypeId} {v:Value} {x:DataW H × List MemPlace} (ht:Tryz.prog.underlying t=some (.slice e)) (hc:Tryz.prog.cellsOf e=m)
  (hel:∀ n cs' y,DataW.trod enc Tryz.prog W 0 (fun _=>true) true n e cs'=some y→∃ a,cs'=f a∧Q a)
  (h:DataW.trod enc Tryz.prog W 0 (fun _=>true) true fuel t [v]=some x) :
  ∃ l:List α,CellsAt W v l.length (l.flatMap f)∧(∀ a ∈ l,Q a)∧(∀ k c,v=.slice none k c→c=0)∧l.length≤9223372036854775807:=by
 rcases open_slice ht h with⟨hv,_⟩ | ⟨a,len,cap,m',n,D,Pl,hv,hb,hl,hmx,hmm,_,hx⟩
 ·simp only [List.cons.injEq,and_true] at hv
  subst hv
  exact⟨[],.inl ⟨rfl,rfl,_,_,rfl⟩,by simp,fun k c h=>by injection h with _ _ h3;exact h3.symm,by simp⟩
 ·simp only [List.cons.injEq,and_true] at hv
  subst hv
  have hlm:len≤m':=by rw [hmm];split <;> omega
  have each:∀ i,i<len→∃ z:α,W.cells? 0 (a.add (i * m)) m=some (f z)∧Q z:=fun i hi=>by
   obtain⟨cs',h1,h2⟩:=hx i (by omega)
   rw [hc] at h1
   obtain⟨z,rfl,hq⟩:=hel _ _ _ h2
   exact⟨z,h1,hq⟩
  obtain⟨T,hT⟩:=choose_lt each
  have hll:((List.range len).map T).length=len:=by simp
  refine⟨(List.range len).map T,?_,?_,fun k c h=>(by injection h with h1;cases h1),by rw [hll];unfold maxLen at hmx;omega⟩
  ·by_cases h0:len=0
   ·subst h0
    exact .inl ⟨rfl,rfl,_,_,rfl⟩
   ·obtain⟨_,_,hat0⟩:=World.cells?_some (hT 0 (by omega)).1
    have hs0:a.spot=none:=by
     have:=hat0 0 (by omega)
     rw [List.getElem?_eq_getElem (by rw [hf];omega)] at this
     have e:(a.add (0 * m)).add 0=a.add 0:=by simp [Addr.add]
     rw [e] at this
     exact zc21 this
    have hcell:∀ i,i<len→∀ j,j<m→∃ u,(f (T i))[j]?=some u∧W.cell? ⟨a.block,a.off+i * m+j,none⟩=some u:=fun i hi j hj=>by
     obtain⟨_,_,hat⟩:=World.cells?_some (hT i hi).1
     have:=hat j (by omega)
     rw [List.getElem?_eq_getElem (by rw [hf];omega)] at this
     exact⟨_,List.getElem?_eq_getElem (by rw [hf];omega),add_spot8 a (i * m) j this hs0⟩
    refine .inr ⟨a.block,a.off,cap,?_,?_,fun k u hk=>?_⟩
    ·rw [hll]
     obtain⟨b,o,sp⟩:=a
     simp only at hs0
     subst hs0
     rfl
    ·obtain⟨u,_,hu⟩:=hcell 0 (by omega) 0 hm
     have:=World.block_lt_of_cell? W _ hu
     exact this
    ·have hkl:=(List.getElem?_eq_some_iff.1 hk).1
     have hlen:(((List.range len).map T).flatMap f).length=len * m:=by rw [zh14 f m hf,hll]
     rw [hlen] at hkl
     have hdm:k / m * m+k % m=k:=by rw [Nat.mul_comm];exact Nat.div_add_mod k m
     have hi:k / m<len:=by
      rw [Nat.div_lt_iff_lt_mul hm]
      exact hkl
     have hj:k % m<m:=Nat.mod_lt _ hm
     obtain⟨u2,hu1,hu2⟩:=hcell (k / m) hi (k % m) hj
     have hfa:=zb3 f m hf ((List.range len).map T) (k / m) (T (k / m)) (by simp [hi]) (k % m) hj
     rw [hdm,hk,hu1] at hfa
     have e:u=u2:=by simpa using hfa
     rw [e,← hu2]
     congr 2
     omega
  ·intro z hz
   obtain⟨i,hi,rfl⟩:=List.mem_map.1 hz
   exact(hT i (List.mem_range.1 hi)).2
theorem funUnder:∃ fs,Tryz.prog.underlying 60=some (.struct fs)∧oneCellFields Tryz.prog fs=true∧fs.size=2∧(fs[0]?).map (·.type)=some 9∧(fs[1]?).map (·.type)=some 3:=
 ⟨_,Tryz.underlying60,by kernel_rfl,by kernel_rfl,by kernel_rfl,by kernel_rfl⟩
theorem zr17:Tryz.prog.cellsOf 60=2:=by kernel_rfl
theorem predUnder:∃ fs,Tryz.prog.underlying 63=some (.struct fs)∧oneCellFields Tryz.prog fs=true∧fs.size=3∧(fs[0]?).map (·.type)=some 9∧(fs[1]?).map (·.type)=some 3∧(fs[2]?).map (·.type)=some 3:=
 ⟨_,Tryz.underlying63,by kernel_rfl,by kernel_rfl,by kernel_rfl,by kernel_rfl,by kernel_rfl⟩
theorem zb14:Tryz.prog.cellsOf 63=3:=by kernel_rfl
theorem obUnder:∃ fs,Tryz.prog.underlying 27=some (.struct fs)∧oneCellFields Tryz.prog fs=true∧fs.size=4∧(fs[0]?).map (·.type)=some 22∧(fs[1]?).map (·.type)=some 23∧(fs[2]?).map (·.type)=some 24∧(fs[3]?).map (·.type)=some 25:=
 ⟨_,Tryz.underlying27,by kernel_rfl,by kernel_rfl,by kernel_rfl,by kernel_rfl,by kernel_rfl,by kernel_rfl⟩
theorem cellsOb:Tryz.prog.cellsOf 27=4:=by kernel_rfl
theorem cellsStr8:Tryz.prog.cellsOf 9=1:=by kernel_rfl
theorem insUnder8:∃ fs,Tryz.prog.underlying 54=some (.struct fs)∧fs.size=2∧(fs[0]?).map (fun f=>(f.type,f.offset))=some (3,0)∧(fs[1]?).map (fun f=>(f.type,f.offset))=some (52,1):=
 ⟨_,Tryz.underlying54,by kernel_rfl,by kernel_rfl,by kernel_rfl⟩
theorem zz13:Tryz.prog.cellsOf 54=5:=by kernel_rfl
theorem zm19:Tryz.prog.cellsOf 52=4:=by kernel_rfl
theorem za14:Tryz.prog.cellsOf 3=1:=by kernel_rfl
theorem five_of8 {l:List Value} (h:l.length=5):∃ a b c d e,l=[a,b,c,d,e]:=by
 match l,h with
 | [a,b,c,d,e],_=>exact⟨a,b,c,d,e,rfl⟩
set_option maxRecDepth 100000 in
theorem ins_in8 {fuel:Nat} {cs:List Value} {x:DataW H × List MemPlace} (h:DataW.trod enc Tryz.prog W 0 (fun _=>true) true fuel 54 cs=some x):∃ i:Ins,cs=insC i∧True:=by
 obtain⟨fs,hfs,hsz,t0,t1⟩:=insUnder8
 obtain⟨xs,n,rfl,_,hcl,hxl,hf⟩:=DataW.trod_struct hfs h
 rw [zz13] at hcl
 obtain⟨c0,c1,c2,c3,c4,rfl⟩:=five_of8 hcl
 have hx0:∃ y,xs[0]?=some y:=⟨_,List.getElem?_eq_getElem (by omega)⟩
 have hx1:∃ y,xs[1]?=some y:=⟨_,List.getElem?_eq_getElem (by omega)⟩
 obtain⟨y0,hy0⟩:=hx0
 obtain⟨y1,hy1⟩:=hx1
 obtain⟨f0,hf0,e0⟩:=Option.map_eq_some_iff.1 t0
 obtain⟨f1,hf1,e1⟩:=Option.map_eq_some_iff.1 t1
 have g0:=hf 0 f0 hf0
 have g1:=hf 1 f1 hf1
 simp only [Prod.mk.injEq] at e0 e1
 rw [e0.1,e0.2,hy0,za14] at g0
 rw [e1.1,e1.2,hy1,zm19] at g1
 simp only [List.drop_zero,List.take_succ_cons,List.take_zero,List.drop_succ_cons] at g0 g1
 obtain⟨z1,z2,z3,z4,m,_,h1,h2,h3,h4⟩:=trod_array4 Tryz.underlying52 za14 g1
 obtain⟨op,k0,_,_⟩:=DataW.trod_int Tryz.underlying3 g0
 obtain⟨a,k1,_,_⟩:=DataW.trod_int Tryz.underlying3 h1
 obtain⟨b,k2,_,_⟩:=DataW.trod_int Tryz.underlying3 h2
 obtain⟨c,k3,_,_⟩:=DataW.trod_int Tryz.underlying3 h3
 obtain⟨d,k4,_,_⟩:=DataW.trod_int Tryz.underlying3 h4
 simp only [List.cons.injEq,and_true] at k0 k1 k2 k3 k4
 subst k0 k1 k2 k3 k4
 exact⟨(op,a,b,c,d),rfl,trivial⟩
theorem str_in {fuel:Nat} {cs:List Value} {x:DataW H × List MemPlace} (h:DataW.trod enc Tryz.prog W 0 (fun _=>true) true fuel 9 cs=some x):∃ s:ByteArray,cs=[.string s]∧s.size≤maxLen:=by
 obtain⟨s,hs,_,hss⟩:=DataW.trod_string Tryz.underlying9 h
 exact⟨s,hs,hss⟩
theorem fun_in {fuel:Nat} {cs:List Value} {x:DataW H × List MemPlace} (h:DataW.trod enc Tryz.prog W 0 (fun _=>true) true fuel 60 cs=some x):∃ f:ByteArray × Int,cs=funC f∧f.1.size≤maxLen:=by
 obtain⟨fs,hfs,hone,hsz,t0,t1⟩:=funUnder
 obtain⟨hl,n,hf⟩:=zp7 hfs hone (by rw [zr17,hsz]) h
 rw [hsz] at hl
 obtain⟨f0,hf0,e0⟩:=Option.map_eq_some_iff.1 t0
 obtain⟨f1,hf1,e1⟩:=Option.map_eq_some_iff.1 t1
 obtain⟨v0,y0,c0,d0⟩:=hf 0 f0 hf0
 obtain⟨v1,y1,c1,d1⟩:=hf 1 f1 hf1
 rw [e0] at d0
 rw [e1] at d1
 obtain⟨s,hs,_,hss⟩:=DataW.trod_string Tryz.underlying9 d0
 obtain⟨k,hk,_,_⟩:=DataW.trod_int Tryz.underlying3 d1
 simp only [List.cons.injEq,and_true] at hs hk
 subst hs hk
 match cs,hl with
 | [a,b],_=>
  simp at c0 c1
  subst c0 c1
  exact⟨(s,k),rfl,hss⟩
theorem pred_in {fuel:Nat} {cs:List Value} {x:DataW H × List MemPlace} (h:DataW.trod enc Tryz.prog W 0 (fun _=>true) true fuel 63 cs=some x):∃ p:ByteArray × Int × Int,cs=predC p∧p.1.size≤maxLen:=by
 obtain⟨fs,hfs,hone,hsz,t0,t1,t2⟩:=predUnder
 obtain⟨hl,n,hf⟩:=zp7 hfs hone (by rw [zb14,hsz]) h
 rw [hsz] at hl
 obtain⟨f0,hf0,e0⟩:=Option.map_eq_some_iff.1 t0
 obtain⟨f1,hf1,e1⟩:=Option.map_eq_some_iff.1 t1
 obtain⟨f2,hf2,e2⟩:=Option.map_eq_some_iff.1 t2
 obtain⟨v0,y0,c0,d0⟩:=hf 0 f0 hf0
 obtain⟨v1,y1,c1,d1⟩:=hf 1 f1 hf1
 obtain⟨v2,y2,c2,d2⟩:=hf 2 f2 hf2
 rw [e0] at d0
 rw [e1] at d1
 rw [e2] at d2
 obtain⟨s,hs,_,hss⟩:=DataW.trod_string Tryz.underlying9 d0
 obtain⟨k,hk,_,_⟩:=DataW.trod_int Tryz.underlying3 d1
 obtain⟨m,hm,_,_⟩:=DataW.trod_int Tryz.underlying3 d2
 simp only [List.cons.injEq,and_true] at hs hk hm
 subst hs hk hm
 match cs,hl with
 | [a,b,c],_=>
  simp at c0 c1 c2
  subst c0 c1 c2
  exact⟨(s,k,m),rfl,hss⟩
theorem ob_in {fuel:Nat} {cs:List Value} {x:DataW H × List MemPlace} (h:DataW.trod enc Tryz.prog W 0 (fun _=>true) true fuel 27 cs=some x) :
  ∃ (o:Ob) (va vf vp vc:Value),cs=[va,vf,vp,vc]∧ObAt W va vf vp vc o∧(∀ s ∈ o.atoms,s.size≤maxLen)∧(∀ f ∈ o.funs,f.1.size≤maxLen)∧(∀ p ∈ o.preds,p.1.size≤maxLen)∧(∀ k c,va=.slice none k c→c=0)∧(∀ k c,vp=.slice none k c→c=0)∧(o.atoms.length≤9223372036854775807∧o.funs.length≤9223372036854775807∧o.preds.length≤9223372036854775807∧o.code.length≤9223372036854775807):=by
 obtain⟨fs,hfs,hone,hsz,t0,t1,t2,t3⟩:=obUnder
 obtain⟨hl,n,hf⟩:=zp7 hfs hone (by rw [cellsOb,hsz]) h
 rw [hsz] at hl
 obtain⟨f0,hf0,e0⟩:=Option.map_eq_some_iff.1 t0
 obtain⟨f1,hf1,e1⟩:=Option.map_eq_some_iff.1 t1
 obtain⟨f2,hf2,e2⟩:=Option.map_eq_some_iff.1 t2
 obtain⟨f3,hf3,e3⟩:=Option.map_eq_some_iff.1 t3
 obtain⟨v0,y0,c0,d0⟩:=hf 0 f0 hf0
 obtain⟨v1,y1,c1,d1⟩:=hf 1 f1 hf1
 obtain⟨v2,y2,c2,d2⟩:=hf 2 f2 hf2
 obtain⟨v3,y3,c3,d3⟩:=hf 3 f3 hf3
 rw [e0] at d0
 rw [e1] at d1
 rw [e2] at d2
 rw [e3] at d3
 obtain⟨la,ha,qa,na,ka⟩:=zj13 (fun s:ByteArray=>[Value.string s]) 1 (fun _=>rfl) (by omega) (fun s=>s.size≤maxLen) Tryz.underlying22 cellsStr8 (fun n cs' y h=>str_in h) d0
 obtain⟨lf,hf',qf,_,kf⟩:=zj13 funC 2 (fun _=>rfl) (by omega) (fun f=>f.1.size≤maxLen) Tryz.underlying23 zr17 (fun n cs' y h=>fun_in h) d1
 obtain⟨lp,hp,qp,np,kp⟩:=zj13 predC 3 (fun _=>rfl) (by omega) (fun p=>p.1.size≤maxLen) Tryz.underlying24 zb14 (fun n cs' y h=>pred_in h) d2
 obtain⟨lc,hc,_,_,kc⟩:=zj13 insC 5 (fun _=>rfl) (by omega) (fun _=>True) Tryz.underlying25 zz13 (fun n cs' y h=>ins_in8 h) d3
 have ha':AtomsAt W v0 la:=by
  unfold AtomsAt
  rw [← zi14]
  exact ha
 match cs,hl with
 | [a,b,c,d],_=>
  simp at c0 c1 c2 c3
  subst c0 c1 c2 c3
  exact⟨⟨la,lf,lp,lc⟩,_,_,_,_,rfl,⟨ha',hf',hp,hc⟩,qa,qf,qp,na,np,ka,kf,kp,kc⟩
end
end Go.Proofs.YtlmbiafloiompaaGreatDoor

namespace Go.Proofs.YtlmbiafloiompaaGreatDoor
open Go Go.RowKit Go.WideShapes Go.ChangeShapes
theorem zi9 (s:ByteArray) (hs:s.size≤8400000) (h:∀ v,Lib.atoiAll s.data.toList≠.ok v) (w:World) {B:Nat} (hL:LaidC B w) :
  Calls Tryz.prog 133 #[.string s] w fun e w'=>∃ v N,e=.returned (.tuple #[.int .i64 v,.iface 249 (.pointer (some ⟨N,0,none⟩))])∧Below w.heap.size w w':=by
 rcases h':Lib.atoiAll s.data.toList with v | _ | _
 ·exact absurd h' (h v)
 ·obtain⟨te,pe,hev⟩:=hL.syn
  refine Calls.mono (Any.strconv_Atoi_syntax Tryz.laysC172 s (by omega) h' _ w hev (.inr ⟨te,pe,rfl⟩)) ?_
  rintro e w' ⟨N,rfl,_,_,hb⟩
  exact⟨_,N,rfl,hb⟩
 ·obtain⟨te,pe,hev⟩:=hL.ran
  refine Calls.mono (Any.strconv_Atoi_range Tryz.laysC172 s (by omega) h' _ w hev (.inr ⟨te,pe,rfl⟩)) ?_
  rintro e w' ⟨N,rfl,_,_,hb⟩
  exact⟨_,N,rfl,hb⟩
set_option maxHeartbeats 84000000 in
theorem zs16 (kind:Int) (s:ByteArray) (hs:s.size≤8400000) (w:World) {B:Nat} (hp:LaidC B w) :
  Calls Tryz.prog 110 #[.int .i64 kind,.string s] w (NumRes w (numOf kind s.data.toList)):=by
 by_cases h45:s=⟨#[45]⟩
 ·subst h45
  go_enter Tryz.func110,Tryz.ntmps110
  go_wp2
  go_ret2
  exact⟨65535,rfl,fun v hv=>by simpa [numOf] using hv,Below.refl _ _⟩
 ·have hne:=zz1 h45
  have hnl:¬ s.data.toList=[45]:=fun e=>h45 (by rw [← str_bs s,e];rfl)
  obtain⟨t,ht⟩:∃ t,bs (Lib.trimLeftS s.data.toList [88,89])=t:=⟨_,rfl⟩
  have htl:t.data.toList=Lib.trimLeftS s.data.toList [88,89]:=by rw [← ht,za4]
  have hts:t.size≤8400000:=by
   have:=trim_len s.data.toList
   rw [← ht,zb4]
   have h2:s.data.toList.length=s.size:=by rw [Array.length_toList];rfl
   omega
  have htr:=fun w=>trim_any s w
  rw [ht] at htr
  have HTR:=hD htr
  have HP:=hD hp
  have hnum:numOf kind s.data.toList=match Lib.atoiAll t.data.toList with
    | .ok v=>some (if kind=1∧Lib.hasPrefix s.data.toList [89]=true then wrap64 (v+16) else v)
    | _=>none:=by rw [numOf,if_neg hnl,htl];rfl
  have HNUM:=hD hnum
  have hne':(s.toList == [45])=false:=by
   rw [beq_eq_false_iff_ne,ByteArray.toList_eq]
   exact hnl
  clear htr hp ht htl hnum h45 hnl hne
  by_cases hok:∃ v,Lib.atoiAll t.data.toList=.ok v
  ·obtain⟨v,hv⟩:=hok
   have hn2:numOf kind s.data.toList=some (if kind=1∧Lib.hasPrefix s.data.toList [89]=true then wrap64 (v+16) else v):=by rw [HNUM.out,hv]
   have HV:=hD hv
   have HN2:=hD hn2
   clear hv hn2 HNUM
   by_cases h1:kind=1
   ·subst h1
    have hpf:=fun w=>za12 s w
    cases hpr:Lib.hasPrefix s.data.toList [89]
    ·rw [hpr] at hpf
     have HPF:=hD hpf
     have HPR:=hD hpr
     clear hpf hpr
     go_enter Tryz.func110,Tryz.ntmps110
     go_wp2_with fail
     refine(HTR.out _).mono ?_
     rintro e w2 ⟨rfl,hb⟩
     go_wp2_with fail
     refine(Tryz.strconv_Atoi_ok t (by omega) v HV.out _).mono ?_
     rintro e w3 ⟨rfl,hw3⟩
     have HB:=hD (hb.trans ((zn2 hw3).mono hb.size))
     clear hb hw3
     go_wp2_with fail
     refine(HPF.out _).mono ?_
     rintro e w' ⟨rfl,rfl⟩
     go_wp2
     go_quiet (fail)
     go_wp2
     go_ret2
     exact zd13 (HN2.out.trans (by rw [HPR.out];rfl)) (zo HB.out _)
    ·rw [hpr] at hpf
     have HPF:=hD hpf
     have HPR:=hD hpr
     clear hpf hpr
     go_enter Tryz.func110,Tryz.ntmps110
     go_wp2_with fail
     refine(HTR.out _).mono ?_
     rintro e w2 ⟨rfl,hb⟩
     go_wp2_with fail
     refine(Tryz.strconv_Atoi_ok t (by omega) v HV.out _).mono ?_
     rintro e w3 ⟨rfl,hw3⟩
     have HB:=hD (hb.trans ((zn2 hw3).mono hb.size))
     clear hb hw3
     go_wp2_with fail
     refine(HPF.out _).mono ?_
     rintro e w' ⟨rfl,rfl⟩
     go_wp2
     go_quiet (fail)
     go_wp2
     go_ret2
     exact zd13 (HN2.out.trans (by rw [HPR.out];rfl)) (zo HB.out _)
   ·have h1':(kind == 1)=false:=by simpa using h1
    have hn3:numOf kind s.data.toList=some v:=by rw [HN2.out,if_neg (fun x=>h1 x.1)]
    have HN3:=hD hn3
    clear h1 hn3 HN2
    go_enter Tryz.func110,Tryz.ntmps110
    go_wp2_with fail
    refine(HTR.out _).mono ?_
    rintro e w2 ⟨rfl,hb⟩
    go_wp2_with fail
    refine(Tryz.strconv_Atoi_ok t (by omega) v HV.out _).mono ?_
    rintro e w3 ⟨rfl,hw3⟩
    have HB:=hD (hb.trans ((zn2 hw3).mono hb.size))
    clear hb hw3
    go_wp2
    go_quiet (fail)
    go_wp2
    go_ret2
    exact zd13 HN3.out (zo HB.out _)
  ·have hbad:∀ v,Lib.atoiAll t.data.toList≠.ok v:=fun v h=>hok ⟨v,h⟩
   have hn2:numOf kind s.data.toList=none:=by
    rw [HNUM.out]
    rcases h:Lib.atoiAll t.data.toList with v | _ | _
    ·exact absurd h (hbad v)
    ·rfl
    ·rfl
   have HBAD:=hD hbad
   have HN2:=hD hn2
   clear hbad hn2 hok HNUM
   have hpf:=fun w=>za12 s w
   obtain⟨pf,hpe⟩:∃ pf,Lib.hasPrefix s.data.toList [89]=pf:=⟨_,rfl⟩
   rw [hpe] at hpf
   have HPF:=hD hpf
   clear hpf hpe
   by_cases h1:kind=1
   ·subst h1
    cases pf
    all_goals
     go_enter Tryz.func110,Tryz.ntmps110
     go_wp2_with fail
     refine(HTR.out _).mono ?_
     rintro e w2 ⟨rfl,hb⟩
     go_wp2_with fail
     refine(zi9 t hts HBAD.out _ (HP.out.up hb)).mono ?_
     rintro e w3 ⟨v,N,rfl,hw3⟩
     have HB:=hD (hb.trans (hw3.mono hb.size))
     clear hb hw3
     go_wp2_with fail
     refine(HPF.out _).mono ?_
     rintro e w' ⟨rfl,rfl⟩
     go_wp2
     go_quiet (fail)
     go_wp2
     go_ret2
     exact zq18 HN2.out (zo HB.out _)
   ·have h1':(kind == 1)=false:=by simpa using h1
    clear h1
    go_enter Tryz.func110,Tryz.ntmps110
    go_wp2_with fail
    refine(HTR.out _).mono ?_
    rintro e w2 ⟨rfl,hb⟩
    go_wp2_with fail
    refine(zi9 t hts HBAD.out _ (HP.out.up hb)).mono ?_
    rintro e w3 ⟨v,N,rfl,hw3⟩
    have HB:=hD (hb.trans (hw3.mono hb.size))
    clear hb hw3
    go_wp2
    go_quiet (fail)
    go_wp2
    go_ret2
    exact zq18 HN2.out (zo HB.out _)
end Go.Proofs.YtlmbiafloiompaaGreatDoor
