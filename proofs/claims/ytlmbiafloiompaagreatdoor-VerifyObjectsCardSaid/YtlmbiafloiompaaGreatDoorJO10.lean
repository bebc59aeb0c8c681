/-
  6 texts in one (VerI VerJ VerK VDocI VDocA VDocB). Conditions: those of each theorem.
-/
import Derived.Test.YtlmbiafloiompaaGreatDoorJO09
set_option linter.unusedVariables false
set_option linter.unusedSimpArgs false
namespace Go.Proofs.YtlmbiafloiompaaGreatDoor
open Go Go.RowKit
set_option maxRecDepth 4000
/-! Cells of a list of places. -/
def plC (p:VPl):List Value:=(stA p.s).toList ++ [.bool p.here,.bool p.bad]
def plA (P:List VPl):Array Value:=(P.flatMap plC).toArray
def PlOk (P:List VPl):Prop:=∀ p ∈ P,StOk p.s
theorem zc10 {p:VPl} (h:StOk p.s):(plC p).length=23:=by
 have:=zh h
 simp [plC,this]
theorem zi2 {α:Type} (f:α→List Value) (m:Nat):∀ (l:List α) (hf:∀ a ∈ l,(f a).length=m) (k:Nat) (a:α),l[k]?=some a→∀ j,j<m→(l.flatMap f)[k * m+j]?=(f a)[j]?
 | [],_,_,_,h,_,_=>by simp at h
 | x :: l,hf,0,a,h,j,hj=>by
  obtain rfl:x=a:=by simpa using h
  rw [List.flatMap_cons,Nat.zero_mul,Nat.zero_add,List.getElem?_append_left (by rw [hf x List.mem_cons_self];exact hj)]
 | x :: l,hf,k+1,a,h,j,hj=>by
  have h':l[k]?=some a:=by simpa using h
  have hx:=hf x List.mem_cons_self
  rw [List.flatMap_cons,List.getElem?_append_right (by rw [hx,Nat.succ_mul];omega),hx,show(k+1) * m+j - m=k * m+j by rw [Nat.succ_mul];omega]
  exact zi2 f m l (fun b hb=>hf b (List.mem_cons_of_mem _ hb)) k a h' j hj
theorem zd2 {α:Type} (f:α→List Value) (m:Nat):∀ (l:List α) (hf:∀ a ∈ l,(f a).length=m),(l.flatMap f).length=l.length * m
 | [],_=>by simp
 | x :: l,hf=>by
  rw [List.flatMap_cons,List.length_append,hf x List.mem_cons_self,zd2 f m l (fun b hb=>hf b (List.mem_cons_of_mem _ hb)),List.length_cons,Nat.succ_mul]
  omega
theorem zq3 {P:List VPl} (h:PlOk P):(plA P).size=P.length * 23:=by
 unfold plA
 rw [List.size_toArray]
 exact zd2 plC 23 P (fun p hp=>zc10 (h p hp))
theorem plA_at {P:List VPl} (h:PlOk P) {n:Nat} (hn:n<P.length) {j:Nat} (hj:j<23):(plA P)[n * 23+j]?=(plC P[n])[j]?:=by
 unfold plA
 rw [List.getElem?_toArray]
 exact zi2 plC 23 P (fun p hp=>zc10 (h p hp)) n P[n] (List.getElem?_eq_getElem hn) j hj
theorem plC_s {p:VPl} (h:StOk p.s) {j:Nat} (hj:j<21):(plC p)[j]?=(stA p.s)[j]?:=by
 have:=zh h
 unfold plC
 rw [List.getElem?_append_left (by simp [this,hj]),Array.getElem?_toList]
theorem zr3 {p:VPl} (h:StOk p.s):(plC p)[21]?=some (.bool p.here):=by
 have:=zh h
 unfold plC
 rw [List.getElem?_append_right (by simp [this])]
 simp [this]
theorem zv5 {p:VPl} (h:StOk p.s):(plC p)[22]?=some (.bool p.bad):=by
 have:=zh h
 unfold plC
 rw [List.getElem?_append_right (by simp [this])]
 simp [this]
theorem zx16 {P:List VPl} (h:PlOk P) {A:Array Value} (hs:A.size=P.length * 23) (ha:∀ k (hk:k<P.length) j,j<23→A[k * 23+j]?=(plC P[k])[j]?):A=plA P:=by
 apply Array.ext_getElem?
 intro m
 by_cases hm:m<P.length * 23
 ·have hk:m / 23<P.length:=by omega
  have e:m=m / 23 * 23+m % 23:=by omega
  rw [e,ha (m / 23) hk (m % 23) (Nat.mod_lt _ (by decide)),plA_at h hk (Nat.mod_lt _ (by decide))]
 ·rw [Array.getElem?_eq_none (by omega),Array.getElem?_eq_none (by rw [zq3 h];omega)]
def putL (C:Array Value):Nat→List Value→Array Value
 | _,[]=>C
 | o,v :: r=>putL (C.setIfInBounds o v) (o+1) r
theorem zf10:∀ (vs:List Value) (C:Array Value) (o:Nat),(putL C o vs).size=C.size
 | [],C,o=>rfl
 | v :: r,C,o=>by rw [putL,zf10 r];simp
theorem zt7:∀ (vs:List Value) (C:Array Value) (o j:Nat),o+vs.length≤C.size→(putL C o vs)[j]?=if o≤j∧j<o+vs.length then vs[j - o]? else C[j]?
 | [],C,o,j,_=>by rw [if_neg (by rw [List.length_nil];omega)];rfl
 | v :: r,C,o,j,h=>by
  rw [List.length_cons] at h
  rw [putL,zt7 r _ (o+1) j (by simp;omega),List.length_cons]
  by_cases e:j=o
  ·subst e
   rw [if_neg (by omega),if_pos (by omega),Nat.sub_self,Array.getElem?_setIfInBounds_self_of_lt (by omega)]
   rfl
  ·by_cases h1:o+1≤j∧j<o+1+r.length
   ·rw [if_pos h1,if_pos (by omega),show j - o=(j - (o+1))+1 by omega,List.getElem?_cons_succ]
   ·rw [if_neg h1,if_neg (by omega),Array.getElem?_setIfInBounds_ne (by omega)]
theorem Box.setCells {t:TypeId} {g:Nat}:∀ (vs:List Value) (w:World) (C:Array Value) (o:Nat),Box w g t C→Box (w.setCells g o vs) g t (putL C o vs)
 | [],_,_,_,h=>h
 | v :: r,w,C,o,h=>Box.setCells r _ _ (o+1) (h.set_ o v)
theorem Fr.setCells {S:Nat→Prop} {g:Nat}:∀ (vs:List Value) (w w':World) (o:Nat),Fr S w w'→(S g ∨ w.heap.size≤g)→Fr S w (w'.setCells g o vs)
 | [],_,_,_,h,_=>h
 | v :: r,w,w',o,h,hg=>Fr.setCells r w _ (o+1) (h.setCell (p:=⟨g,o,none⟩) hg v) hg
theorem Box.setCells_far {t:TypeId} {g k:Nat} (hk:g≠k):∀ (vs:List Value) (w:World) (C:Array Value) (o:Nat),Box w g t C→Box (w.setCells k o vs) g t C
 | [],_,_,_,h=>h
 | v :: r,w,C,o,h=>Box.setCells_far hk r _ C (o+1) (h.far (p:=⟨k,o,none⟩) hk v)
theorem PlOk.set {P:List VPl} (h:PlOk P) {n:Nat} {q:VPl} (hq:StOk q.s):PlOk (P.set n q):=fun p hp=>by
 rcases List.mem_or_eq_of_mem_set hp with hp | rfl
 ·exact h p hp
 ·exact hq
theorem zb15 {P:List VPl} (h:PlOk P) {n:Nat} (hn:n<P.length) {s:VSt} (hs:StOk s):putL (plA P) (n * 23) (stA s).toList=plA (P.set n { P[n] with s:=s }):=by
 have h1:=zh hs
 have hq:StOk ({ P[n] with s:=s }:VPl).s:=hs
 have hl:(stA s).toList.length=21:=by rw [Array.length_toList,h1]
 have hp:=h P[n] (List.getElem_mem hn)
 refine zx16 (h.set hq) (by rw [zf10,zq3 h,List.length_set]) fun k hk j hj=>?_
 rw [List.length_set] at hk
 rw [zt7 _ _ _ _ (by rw [zq3 h,hl];omega),hl]
 by_cases e:k=n
 ·subst e
  rw [List.getElem_set_self]
  by_cases hj2:j<21
  ·rw [if_pos (by omega),show k * 23+j - k * 23=j by omega,plC_s hq hj2,Array.getElem?_toList]
  ·rw [if_neg (by omega),plA_at h hn hj]
   have hj3:j=21 ∨ j=22:=by omega
   rcases hj3 with rfl | rfl
   ·rw [zr3 hp,zr3 hq]
   ·rw [zv5 hp,zv5 hq]
 ·rw [if_neg (by omega),plA_at h hk hj,List.getElem_set_ne (fun x=>e x.symm)]
theorem plA_here {P:List VPl} (h:PlOk P) {n:Nat} (hn:n<P.length) (b:Bool):(plA P).setIfInBounds (n * 23+21) (.bool b)=plA (P.set n { P[n] with here:=b }):=by
 have hp:=h P[n] (List.getElem_mem hn)
 have hq:StOk ({ P[n] with here:=b }:VPl).s:=hp
 refine zx16 (h.set hq) (by rw [Array.size_setIfInBounds,zq3 h,List.length_set]) fun k hk j hj=>?_
 rw [List.length_set] at hk
 by_cases e:k=n
 ·subst e
  rw [List.getElem_set_self]
  by_cases hj2:j=21
  ·subst hj2
   rw [Array.getElem?_setIfInBounds_self_of_lt (by rw [zq3 h];omega),zr3 hq]
  ·rw [Array.getElem?_setIfInBounds_ne (by omega),plA_at h hn hj]
   by_cases hj3:j=22
   ·subst hj3
    rw [zv5 hp,zv5 hq]
   ·rw [plC_s hp (by omega),plC_s hq (by omega)]
 ·rw [Array.getElem?_setIfInBounds_ne (by omega),plA_at h hk hj,List.getElem_set_ne (fun x=>e x.symm)]
theorem plA_bad {P:List VPl} (h:PlOk P) {n:Nat} (hn:n<P.length) (b:Bool):(plA P).setIfInBounds (n * 23+22) (.bool b)=plA (P.set n { P[n] with bad:=b }):=by
 have hp:=h P[n] (List.getElem_mem hn)
 have hq:StOk ({ P[n] with bad:=b }:VPl).s:=hp
 refine zx16 (h.set hq) (by rw [Array.size_setIfInBounds,zq3 h,List.length_set]) fun k hk j hj=>?_
 rw [List.length_set] at hk
 by_cases e:k=n
 ·subst e
  rw [List.getElem_set_self]
  by_cases hj2:j=22
  ·subst hj2
   rw [Array.getElem?_setIfInBounds_self_of_lt (by rw [zq3 h];omega),zv5 hq]
  ·rw [Array.getElem?_setIfInBounds_ne (by omega),plA_at h hn hj]
   by_cases hj3:j=21
   ·subst hj3
    rw [zr3 hp,zr3 hq]
   ·rw [plC_s hp (by omega),plC_s hq (by omega)]
 ·rw [Array.getElem?_setIfInBounds_ne (by omega),plA_at h hk hj,List.getElem_set_ne (fun x=>e x.symm)]
theorem zu4 {w:World} {g:Nat} {t:TypeId} {P:List VPl} (hb:Box w g t (plA P)) (h:PlOk P) {n:Nat} (hn:n<P.length):w.rangeAt g (n * 23) (stA P[n].s).toList:=by
 intro j v hv
 have hp:=h P[n] (List.getElem_mem hn)
 have hj:j<21:=by
  have:=(List.getElem?_eq_some_iff.1 hv).1
  rw [Array.length_toList,zh hp] at this
  exact this
 rw [hb.cell,plA_at h hn (by omega),plC_s hp hj,← Array.getElem?_toList]
 exact hv
theorem zc15 {w:World} {g:Nat} {t:TypeId} {P:List VPl} (hb:Box w g t (plA P)) (h:PlOk P) {n:Nat} (hn:n<P.length):w.rangeAt g (n * 23) (plC P[n]):=by
 intro j v hv
 have hp:=h P[n] (List.getElem_mem hn)
 have hj:j<23:=by
  have:=(List.getElem?_eq_some_iff.1 hv).1
  rw [zc10 hp] at this
  exact this
 rw [hb.cell,plA_at h hn hj]
 exact hv
theorem plA_there {w:World} {g:Nat} {t:TypeId} {P:List VPl} (hb:Box w g t (plA P)) (h:PlOk P) {n:Nat} (hn:n<P.length):w.there g (n * 23) 21:=by
 intro j hj
 have hp:=h P[n] (List.getElem_mem hn)
 refine⟨?_,hb.frozen _⟩
 rw [hb.cell,plA_at h hn (by omega),plC_s hp hj]
 have:=zh hp
 rw [Array.getElem?_eq_getElem (by omega)]
 rfl
/-! The walk in memory: its own box,the places' row. -/
structure WkAt (w:World) (gw g:Nat) (va vf vp vc:Value) (P:List VPl):Prop where
 wk:Box w gw 124 #[va,vf,vp,vc,.slice (some ⟨g,0,none⟩) P.length P.length]
 pl:Box w g 133 (plA P)
theorem WkAt.ne {w:World} {gw g:Nat} {va vf vp vc:Value} {P:List VPl} (h:WkAt w gw g va vf vp vc P):gw≠g:=Box.ne_ h.wk h.pl (by decide)
theorem WkAt.fr {w w':World} {gw g:Nat} {va vf vp vc:Value} {P:List VPl} (h:WkAt w gw g va vf vp vc P) (hb:Below w.heap.size w w'):WkAt w' gw g va vf vp vc P:=⟨h.wk.below hb h.wk.lt,h.pl.below hb h.pl.lt⟩
theorem WkAt.upd {w w':World} {gw g:Nat} {va vf vp vc:Value} {P P':List VPl} (h:WkAt w gw g va vf vp vc P) (hf:Fr (fun k=>k=g) w w') (hp:Box w' g 133 (plA P')) (hl:P'.length=P.length):WkAt w' gw g va vf vp vc P':=
 ⟨by rw [hl];exact h.wk.fr hf h.ne,hp⟩
/-! What is known stays in its bounds. -/
structure StW (s:VSt):Prop where
 ok:StOk s
 l0:0≤s.left
 l1:s.left≤8
def PlW (P:List VPl):Prop:=∀ p ∈ P,StW p.s
theorem PlW.ok {P:List VPl} (h:PlW P):PlOk P:=fun p hp=>(h p hp).ok
theorem StW.entry (n:Nat) (hn:n≤8):StW (stEntry n):=⟨StOk.entry n hn,Int.le_refl _,by show(0:Int)≤8;decide⟩
theorem StW.other (n:Nat) (hn:n≤8):StW (stOther n):=⟨StOk.other n hn,Int.le_refl _,by show(0:Int)≤8;decide⟩
theorem StW.zero:StW stZero:=⟨⟨rfl,by decide⟩,Int.le_refl _,by decide⟩
theorem StOk.join {s t:VSt} (hs:StOk s) (ht:StOk t):StOk (joinV s t):=⟨by show(List.zipWith mixY s.y t.y).length=16;rw [List.length_zipWith,hs.y,ht.y];rfl,Nat.lt_of_le_of_lt Nat.and_le_left hs.x⟩
theorem StW.join {s t:VSt} (hs:StW s) (ht:StW t):StW (joinV s t):=⟨hs.ok.join ht.ok,hs.l0,hs.l1⟩
theorem StW.come {p:VPl} {s:VSt} (hp:StW p.s) (hs:StW s):StW (comeV p s).s:=by
 unfold comeV
 split
 ·exact hs
 ·split
  ·exact hp
  ·exact hp.join hs
theorem PlW.bring {P:List VPl} (h:PlW P) (n:Int) {s:VSt} (hs:StW s):PlW (bringV P n s):=by
 intro p hp
 obtain⟨j,hj,e⟩:=List.getElem_of_mem hp
 have h1:(bringV P n s)[j]?=some p:=by rw [List.getElem?_eq_getElem hj,e]
 rw [zu2] at h1
 split at h1
 ·cases hq:P[j]? with
  | none=>rw [hq] at h1;cases h1
  | some q=>
   rw [hq] at h1
   injection h1 with h1
   rw [← h1]
   exact(h q (List.mem_of_getElem? hq)).come hs
 ·exact h p (List.mem_of_getElem? h1)
theorem PlW.brings {P:List VPl} (f:Int→VSt):∀ (l:List Int) (P:List VPl),PlW P→(∀ t ∈ l,StW (f t))→PlW (l.foldl (fun Q t=>bringV Q t (f t)) P)
 | [],_,h,_=>h
 | t :: l,P,h,hf=>by
  rw [List.foldl_cons]
  exact PlW.brings (P:=P) f l _ (h.bring t (hf t List.mem_cons_self)) (fun u hu=>hf u (List.mem_cons_of_mem _ hu))
theorem PlW.zeros (n:Nat):PlW (List.replicate n plZero):=fun p hp=>by
 rw [List.eq_of_mem_replicate hp]
 exact StW.zero
/-! An instruction of an object that may be. -/
structure InsK (o:Ob) (i:Ins):Prop where
 op:0≤i.1∧i.1≤26
 rg:i.1=1 ∨ i.1=2 ∨ i.1=10 ∨ i.1=11 ∨ i.1=6 ∨ i.1=7→0≤i.2.1∧i.2.1<32
 xb:i.1=1 ∨ i.1=2 ∨ i.1=10 ∨ i.1=11 ∨ i.1=3 ∨ i.1=12 ∨ i.1=4 ∨ i.1=13→0≤i.2.2.1∧i.2.2.1<16
 xa:i.1=5 ∨ i.1=14→0≤i.2.1∧i.2.1<16
 fa:i.1=4 ∨ i.1=13→0≤i.2.1∧i.2.1<o.funs.length
 va:i.1=9→1≤i.2.1∧i.2.1≤8
 ea:i.1=15→0≤i.2.1∧i.2.1≤16
 pa:i.1=17 ∨ i.1=18→0≤i.2.1∧i.2.1<o.preds.length
 ya:i.1=24 ∨ i.1=25→0≤i.2.1∧i.2.1<16
 la:∀ t ∈ labsV i,0≤t∧t<o.code.length
theorem insErr_k {a f p c:Nat} {i:Ins} (h:insErr a f p c i=0):(0≤i.1∧i.1≤26)∧rightB i.1 (argOf i)=true∧∀ k,k<(opsOf i.1).length→thereB a f p c ((opsOf i.1).getD k 0) ((argOf i).getD k 0)=true:=by
 unfold insErr at h
 split at h
 ·exact absurd h (by decide)
 ·rename_i h1
  split at h
  ·exact absurd h (by decide)
  ·rename_i h2
   split at h
   ·rename_i h3
    refine⟨by omega,?_,fun k hk=>?_⟩
    ·cases hx:rightB i.1 (argOf i) with
     | true=>rfl
     | false=>exact absurd hx h2
    ·exact List.all_eq_true.1 h3 k (List.mem_range.2 hk)
   ·exact absurd h (by decide)
theorem right_k {op:Int} {a:List Int} (h:rightB op a=true) (k:Nat) (hk:k<4):mayB op ((opsOf op).getD k 0) (a.getD k 0)=true:=by
 unfold rightB at h
 rw [Bool.and_eq_true] at h
 exact List.all_eq_true.1 h.2 k (List.mem_range.2 hk)
theorem InsK.of {o:Ob} {i:Ins} (h:insErr o.atoms.length o.funs.length o.preds.length o.code.length i=0):InsK o i:=by
 obtain⟨op,a,b,c,d⟩:=i
 obtain⟨h1,h2,h3⟩:=insErr_k h
 simp only [argOf] at h1 h2 h3
 have r0:=right_k h2 0 (by decide)
 have r1:=right_k h2 1 (by decide)
 simp only [List.getD_cons_zero,List.getD_cons_succ] at r0 r1
 refine⟨h1,?_,?_,?_,?_,?_,?_,?_,?_,?_⟩
 ·intro e
  simp only at e ⊢
  rcases e with rfl | rfl | rfl | rfl | rfl | rfl <;> simp [opsOf,mayB,lowOf,highOf] at r0 <;> omega
 ·intro e
  simp only at e ⊢
  rcases e with rfl | rfl | rfl | rfl | rfl | rfl | rfl | rfl <;> simp [opsOf,mayB,lowOf,highOf] at r1 <;> omega
 ·intro e
  simp only at e ⊢
  rcases e with rfl | rfl <;> simp [opsOf,mayB,lowOf,highOf] at r0 <;> omega
 ·intro e
  simp only at e ⊢
  rcases e with rfl | rfl
  ·have:=h3 0 (by decide)
   simp [opsOf,thereB] at this
   omega
  ·have:=h3 0 (by decide)
   simp [opsOf,thereB] at this
   omega
 ·intro e
  simp only at e ⊢
  subst e
  simp [opsOf,mayB,lowOf,highOf] at r0
  omega
 ·intro e
  simp only at e ⊢
  subst e
  simp [opsOf,mayB,lowOf,highOf] at r0
  omega
 ·intro e
  simp only at e ⊢
  rcases e with rfl | rfl
  ·have:=h3 0 (by decide)
   simp [opsOf,thereB] at this
   omega
  ·have:=h3 0 (by decide)
   simp [opsOf,thereB] at this
   omega
 ·intro e
  simp only at e ⊢
  rcases e with rfl | rfl <;> simp [opsOf,mayB,lowOf,highOf] at r0 <;> omega
 ·intro t ht
  unfold labsV at ht
  rw [List.mem_map] at ht
  obtain⟨k,hk,rfl⟩:=ht
  rw [List.mem_filter,List.mem_range] at hk
  obtain⟨hk1,hk2⟩:=hk
  rw [Bool.and_eq_true,decide_eq_true_eq,decide_eq_true_eq] at hk2
  have h4:=h3 k hk1
  simp only [argOf] at hk2 ⊢
  rw [hk2.1] at h4
  simp only [thereB,show ¬ ((8:Int)=3) by decide,show ¬ ((8:Int)=4) by decide,show ¬ ((8:Int)=7) by decide,if_false,if_true,decide_eq_true_eq] at h4
  rcases h4 with h4 | h4
  ·exact absurd h4 hk2.2
  ·exact h4
structure ObK (o:Ob):Prop where
 ins:∀ i ∈ o.code,InsK o i
 fun_:∀ f ∈ o.funs,1≤f.2∧f.2≤8
 pred:∀ p ∈ o.preds,0≤p.2.1∧p.2.1≤8
 lf:o.funs.length≤256
 lp:o.preds.length≤64
 lc:o.code.length≤1024
theorem zs17 {a f p c:Nat}:∀ {l:List Ins},codeErr a f p c l=0→∀ i ∈ l,insErr a f p c i=0
 | [],_,i,hi=>by cases hi
 | x :: l,h,i,hi=>by
  rw [codeErr] at h
  split at h
  ·rename_i h0
   rcases List.mem_cons.1 hi with rfl | hi
   ·exact h0
   ·exact zs17 h i hi
  ·rename_i h0
   exact absurd h h0
theorem ObK.of {o:Ob} (h:checkOf o=0):ObK o:=by
 unfold checkOf at h
 split at h
 ·exact absurd h (by decide)
 ·rename_i h1
  split at h
  ·exact absurd h (by decide)
  ·rename_i h2
   split at h
   ·exact absurd h (by decide)
   ·split at h
    ·exact absurd h (by decide)
    ·have hb:bigB o.atoms.length o.funs.length o.preds.length o.code.length=false:=by
      cases hx:bigB o.atoms.length o.funs.length o.preds.length o.code.length with
      | false=>rfl
      | true=>exact absurd hx h1
     unfold bigB at hb
     rw [decide_eq_false_iff_not] at hb
     have hn:namesOk o=true:=by
      cases hx:namesOk o with
      | true=>rfl
      | false=>exact absurd hx h2
     unfold namesOk at hn
     rw [Bool.and_eq_true,Bool.and_eq_true] at hn
     refine⟨fun i hi=>InsK.of (zs17 h i hi),fun f hf=>?_,fun p hp=>?_,by omega,by omega,by omega⟩
     ·have:=List.all_eq_true.1 hn.1.2 f hf
      unfold funOk at this
      simp only [Bool.and_eq_true,decide_eq_true_eq] at this
      omega
     ·have:=List.all_eq_true.1 hn.2 (called p) (List.mem_map.2 ⟨p,hp,rfl⟩)
      unfold funOk called at this
      simp only [Bool.and_eq_true,decide_eq_true_eq] at this
      omega
theorem StOk.reg {s:VSt} (h:StOk s) {r:Int} (h0:0≤r) (h1:r<16):StOk (regV s r):=⟨h.y,or_lt h.x (by omega)⟩
theorem StOk.bec {s:VSt} (h:StOk s) {r:Int} (h0:0≤r) (h1:r<32):StOk (becV s r):=by
 unfold becV
 split
 ·exact h.reg h0 (by omega)
 ·exact⟨by simpa using h.y,h.x⟩
theorem zc5 (s:VSt) (r:Int):(becV s r).left=s.left:=by unfold becV regV;split <;> rfl
theorem zz2 {o:Ob} (h:ObK o) (k:Int):0≤arityF o k∧arityF o k≤8:=by
 unfold arityF
 rw [List.getD_eq_getElem?_getD]
 cases hx:o.funs[k.toNat]? with
 | none=>simp
 | some f=>
  have:=h.fun_ f (List.mem_of_getElem? hx)
  simp only [Option.getD_some]
  omega
theorem zg2 {o:Ob} (h:ObK o) (k:Int):0≤arityP o k∧arityP o k≤8:=by
 unfold arityP
 rw [List.getD_eq_getElem?_getD]
 cases hx:o.preds[k.toNat]? with
 | none=>simp
 | some f=>
  have:=h.pred f (List.mem_of_getElem? hx)
  simp only [Option.getD_some]
  omega
theorem zj11 {o:Ob} {ar:Int} {i:Ins} {s:VSt} (h:asksV o ar i s=true):(i.1=6 ∨ i.1=7 ∨ i.1=8→s.left≠0)∧(i.1=9→i.2.1≤s.left):=by
 unfold asksV at h
 by_cases ha:s.alt≠(decide (i.1=21) || decide (i.1=22))
 ·rw [if_pos ha] at h
  cases h
 ·rw [if_neg ha] at h
  constructor
  ·intro e
   have hp:partV i.1=true:=by unfold partV;rcases e with e | e | e <;> rw [e] <;> rfl
   rw [if_pos hp] at h
   unfold asksPart at h
   rw [if_neg (by omega)] at h
   intro h0
   rw [if_pos h0] at h
   cases h
  ·intro e
   have hp:partV i.1=true:=by unfold partV;rw [e];rfl
   rw [if_pos hp] at h
   unfold asksPart at h
   rw [if_pos e] at h
   simpa using h
theorem StW.makes {o:Ob} {ar:Int} {i:Ins} {s:VSt} (ho:ObK o) (hi:InsK o i) (h:asksV o ar i s=true) (hs:StW s):StW (makesV o i s):=by
 obtain⟨h1,h2⟩:=zj11 h
 have hl0:=hs.l0
 have hl1:=hs.l1
 have ha:=zz2 ho i.2.1
 unfold makesV
 by_cases e1:i.1=1
 ·rw [if_pos e1]
  have hr:=hi.rg (by omega)
  exact⟨hs.ok.bec hr.1 hr.2,by rw [zc5];exact hl0,by rw [zc5];exact hl1⟩
 rw [if_neg e1]
 by_cases e2:i.1=4
 ·rw [if_pos e2]
  exact⟨⟨hs.ok.y,hs.ok.x⟩,ha.1,ha.2⟩
 rw [if_neg e2]
 by_cases e3:i.1=5
 ·rw [if_pos e3]
  exact⟨⟨hs.ok.y,hs.ok.x⟩,by show(0:Int)≤2;decide,by show(2:Int)≤8;decide⟩
 rw [if_neg e3]
 by_cases e4:i.1=6
 ·rw [if_pos e4]
  have hr:=hi.rg (by omega)
  have:=h1 (.inl e4)
  have hb:=hs.ok.bec hr.1 hr.2
  exact⟨⟨hb.y,hb.x⟩,by show 0≤s.left - 1;omega,by show s.left - 1≤8;omega⟩
 rw [if_neg e4]
 by_cases e5:i.1=7 ∨ i.1=8
 ·rw [if_pos e5]
  have:=h1 (.inr e5)
  exact⟨⟨hs.ok.y,hs.ok.x⟩,by show 0≤s.left - 1;omega,by show s.left - 1≤8;omega⟩
 rw [if_neg e5]
 by_cases e6:i.1=9
 ·rw [if_pos e6]
  have:=h2 e6
  have:=hi.va e6
  exact⟨⟨hs.ok.y,hs.ok.x⟩,by show 0≤s.left - i.2.1;omega,by show s.left - i.2.1≤8;omega⟩
 rw [if_neg e6]
 by_cases e7:i.1=10
 ·rw [if_pos e7]
  have hr:=hi.rg (by omega)
  have hx:=hi.xb (by omega)
  exact⟨(hs.ok.bec hr.1 hr.2).reg hx.1 hx.2,by show 0≤(becV s i.2.1).left;rw [zc5];exact hl0,by show(becV s i.2.1).left≤8;rw [zc5];exact hl1⟩
 rw [if_neg e7]
 by_cases e8:i.1=11 ∨ i.1=12
 ·rw [if_pos e8]
  have hx:=hi.xb (by omega)
  exact⟨hs.ok.reg hx.1 hx.2,hl0,hl1⟩
 rw [if_neg e8]
 by_cases e9:i.1=13
 ·rw [if_pos e9]
  have hx:=hi.xb (by omega)
  have hb:=hs.ok.reg hx.1 hx.2
  exact⟨⟨hb.y,hb.x⟩,ha.1,ha.2⟩
 rw [if_neg e9]
 by_cases e10:i.1=14
 ·rw [if_pos e10]
  have hx:=hi.xa (by omega)
  have hb:=hs.ok.reg hx.1 hx.2
  exact⟨⟨hb.y,hb.x⟩,by show(0:Int)≤2;decide,by show(2:Int)≤8;decide⟩
 rw [if_neg e10]
 by_cases e11:i.1=15
 ·rw [if_pos e11]
  exact⟨⟨hs.ok.y,hs.ok.x⟩,hl0,hl1⟩
 rw [if_neg e11]
 by_cases e12:i.1=16
 ·rw [if_pos e12]
  exact⟨⟨rfl,hs.ok.x⟩,hl0,hl1⟩
 rw [if_neg e12]
 by_cases e13:i.1=17
 ·rw [if_pos e13]
  exact⟨⟨hs.ok.y,by show(0:Nat)<2 ^ 16;decide⟩,hl0,hl1⟩
 rw [if_neg e13]
 by_cases e14:i.1=21 ∨ i.1=22
 ·rw [if_pos e14]
  exact⟨⟨hs.ok.y,hs.ok.x⟩,hl0,hl1⟩
 rw [if_neg e14]
 by_cases e15:i.1=24
 ·rw [if_pos e15]
  exact⟨⟨by show(s.y.set _ _).length=16;rw [List.length_set];exact hs.ok.y,hs.ok.x⟩,hl0,hl1⟩
 rw [if_neg e15]
 exact hs
end Go.Proofs.YtlmbiafloiompaaGreatDoor

namespace Go.Proofs.YtlmbiafloiompaaGreatDoor
open Go
/-! Labels. -/
def labK (i:Ins) (k:Nat):List Int:=((List.range k).filter fun k=>decide ((opsOf i.1).getD k 0=8) && decide ((argOf i).getD k 0≠65535)).map fun k=>(argOf i).getD k 0
theorem labK_zero (i:Ins):labK i 0=[]:=rfl
theorem zs8 (i:Ins):labK i (opsOf i.1).length=labsV i:=rfl
theorem zy12 {i:Ins} {k:Nat} (h1:(opsOf i.1).getD k 0=8) (h2:(argOf i).getD k 0≠65535):labK i (k+1)=labK i k ++ [(argOf i).getD k 0]:=by
 unfold labK
 rw [List.range_succ,List.filter_append,List.map_append]
 congr 1
 rw [List.filter_cons_of_pos (by rw [decide_eq_true h1,decide_eq_true h2];rfl)]
 rfl
theorem zm16 {i:Ins} {k:Nat} (h:¬ ((opsOf i.1).getD k 0=8∧(argOf i).getD k 0≠65535)):labK i (k+1)=labK i k:=by
 unfold labK
 rw [List.range_succ,List.filter_append,List.map_append,List.filter_cons_of_neg (by simpa using fun a b=>h ⟨a,b⟩)]
 simp
theorem zt8 (i:Ins) (k:Nat):(labK i k).length≤k:=by
 unfold labK
 rw [List.length_map]
 exact Nat.le_trans (List.length_filter_le _ _) (by rw [List.length_range];exact Nat.le_refl _)
theorem zx9 (op:Int):(opsOf op).length≤4:=by
 unfold opsOf
 repeat' split
 all_goals decide
/-! Spans. -/
def spC (p:Int × Int × Int):List Value:=[.int .i64 p.1,.int .i64 p.2.1,.int .i64 p.2.2]
def spZ (p:ByteArray × Int × Int):Int × Int × Int:=(p.2.1,p.2.2,0)
def spansOf (n:Nat):List (ByteArray × Int × Int)→List (Int × Int × Int)
 | []=>[]
 | p :: L=>(p.2.1,p.2.2,nextEnt n L) :: spansOf n L
theorem zo10 (n:Nat):∀ L,(spansOf n L).length=L.length
 | []=>rfl
 | p :: L=>by simp [spansOf,zo10 n L]
theorem zp13 (n:Nat):∀ (L:List (ByteArray × Int × Int)) (k:Nat) (h:k<L.length),(spansOf n L)[k]?=some (L[k].2.1,L[k].2.2,nextEnt n (L.drop (k+1)))
 | [],k,h=>absurd h (Nat.not_lt_zero _)
 | p :: L,0,h=>rfl
 | p :: L,k+1,h=>by
  have:=zp13 n L k (by simpa using h)
  simpa [spansOf] using this
theorem za15 {α β:Type} [DecidableEq α] (f:α→β):∀ (l':List β) (l:List α),l'.Perm (l.map f)→∃ L:List α,L.Perm l∧L.map f=l'
 | [],l,h=>by
  have h1:=h.symm.eq_nil
  rw [List.map_eq_nil_iff] at h1
  exact⟨[],by rw [h1],rfl⟩
 | x :: xs,l,h=>by
  have hx:x ∈ l.map f:=h.mem_iff.1 List.mem_cons_self
  obtain⟨a,ha,e⟩:=List.mem_map.1 hx
  have h1:=List.perm_cons_erase ha
  have h2:=(h.trans (h1.map f))
  rw [List.map_cons,e] at h2
  obtain⟨L,hL,hm⟩:=za15 f xs (l.erase a) h2.cons_inv
  exact⟨a :: L,(hL.cons a).trans h1.symm,by rw [List.map_cons,hm,e]⟩
/-! The program's way,place by place. -/
def stepF (o:Ob) (ar stop:Int) (L:List (ByteArray × Int × Int)) (n:Nat) (P:List VPl):Except Nat (Nat × List VPl):=
 match runS o ar stop (stop - n).toNat n P with
 | .error m=>.error m
 | .ok Q=>faultP o L stop.toNat Q
theorem stepF_end {o:Ob} {ar stop:Int} {L:List (ByteArray × Int × Int)} {n:Nat} {P:List VPl} (h:(n:Int)=stop):stepF o ar stop L n P=faultP o L n P:=by
 subst h
 unfold stepF
 rw [show((n:Int) - (n:Int)).toNat=0 by omega,runS,Int.toNat_natCast]
theorem stepF_bad {o:Ob} {ar stop:Int} {L:List (ByteArray × Int × Int)} {n:Nat} {P:List VPl} (h:(n:Int)<stop) (hp:passV o ar stop n P=none):stepF o ar stop L n P=.error n:=by
 unfold stepF
 rw [show(stop - (n:Int)).toNat=(stop - ((n:Int)+1)).toNat+1 by omega,runS,hp]
theorem stepF_go {o:Ob} {ar stop:Int} {L:List (ByteArray × Int × Int)} {n:Nat} {P Q:List VPl} (h:(n:Int)<stop) (hp:passV o ar stop n P=some Q):stepF o ar stop L n P=stepF o ar stop L (n+1) Q:=by
 unfold stepF
 rw [show(stop - (n:Int)).toNat=(stop - ((n:Int)+1)).toNat+1 by omega,runS,hp,show(((n+1:Nat):Int))=(n:Int)+1 by omega]
theorem zp19 {o:Ob} {p:ByteArray × Int × Int} {L:List (ByteArray × Int × Int)} {n:Nat} {P:List VPl} (h:(n:Int)<p.2.2):faultP o (p :: L) n P=.error n:=by rw [faultP,if_pos h]
theorem faultP_go {o:Ob} {p:ByteArray × Int × Int} {L:List (ByteArray × Int × Int)} {n:Nat} {P:List VPl} (h:¬ (n:Int)<p.2.2):faultP o (p :: L) n P=stepF o p.2.1 (nextEnt o.code.length L) L n (bringV P p.2.2 (stEntry p.2.1.toNat)):=by rw [faultP,if_neg h];rfl
theorem pass_len {o:Ob} {ar stop:Int} {n:Nat} {P Q:List VPl} (h:passV o ar stop n P=some Q):Q.length=P.length:=by
 unfold passV at h
 simp only at h
 split at h
 ·cases h
 ·injection h with h
  rw [← h]
  have all:∀ (l:List Int) (f:Int→VSt) (R:List VPl),(l.foldl (fun Q t=>bringV Q t (f t)) R).length=R.length:=by
   intro l f
   induction l with
   | nil=>intro R;rfl
   | cons t l ih=>intro R;rw [List.foldl_cons,ih,zw1]
  rw [all _ (fun _=>if (o.code.getD n (0,0,0,0,0)).1=26 then makesV o (o.code.getD n (0,0,0,0,0)) (P.getD n plZero).s else stOther ar.toNat)]
  split
  ·rw [zw1]
  ·rfl
end Go.Proofs.YtlmbiafloiompaaGreatDoor

namespace Go.Proofs.YtlmbiafloiompaaGreatDoor
open Go Go.RowKit
set_option maxRecDepth 4000
theorem zw10 (w:World) (A B C:Array Value) (t:TypeId):Box (((w.alloc (.cells A t)).alloc (.cells B t)).alloc (.cells C t)) w.heap.size t A∧Box (((w.alloc (.cells A t)).alloc (.cells B t)).alloc (.cells C t)) (w.heap.size+1) t B∧Box (((w.alloc (.cells A t)).alloc (.cells B t)).alloc (.cells C t)) (w.heap.size+2) t C∧Below w.heap.size w (((w.alloc (.cells A t)).alloc (.cells B t)).alloc (.cells C t)):=by
 obtain⟨h1,h2,h3⟩:=zb7 w A B t
 have h4:=za ((w.alloc (.cells A t)).alloc (.cells B t)) (.cells C t)
 have e:((w.alloc (.cells A t)).alloc (.cells B t)).heap.size=w.heap.size+2:=by simp
 refine⟨h1.alloc _,h2.alloc _,?_,h3.trans (h4.mono h3.size)⟩
 have:=Box.new ((w.alloc (.cells A t)).alloc (.cells B t)) t C
 rw [e] at this
 exact this
theorem zy18 (s:VSt) (v:Nat):stA { s with x:=v }=(stA s).setIfInBounds 0 (.int .u32 (v:Int)):=rfl
theorem zo3 {s:VSt} (h:StOk s) (b:Bool):stA { s with neck:=b }=(stA s).setIfInBounds 20 (.bool b):=by
 obtain⟨x,env,y,left,alt,neck⟩:=s
 obtain⟨y0,y1,y2,y3,y4,y5,y6,y7,y8,y9,y10,y11,y12,y13,y14,y15,rfl⟩:=zm1 y h.y
 rfl
theorem zc1 {s:VSt} (h:StOk s) (v:Int):stA { s with left:=v }=(stA s).setIfInBounds 18 (.int .i64 v):=by
 obtain⟨x,env,y,left,alt,neck⟩:=s
 obtain⟨y0,y1,y2,y3,y4,y5,y6,y7,y8,y9,y10,y11,y12,y13,y14,y15,rfl⟩:=zm1 y h.y
 rfl
theorem zm5 {s:VSt} (h:StOk s) (b:Bool):stA { s with alt:=b }=(stA s).setIfInBounds 19 (.bool b):=by
 obtain⟨x,env,y,left,alt,neck⟩:=s
 obtain⟨y0,y1,y2,y3,y4,y5,y6,y7,y8,y9,y10,y11,y12,y13,y14,y15,rfl⟩:=zm1 y h.y
 rfl
theorem zn5 (s:VSt) (v:Int):stA { s with env:=v }=(stA s).setIfInBounds 1 (.int .i64 v):=rfl
theorem za9 {s:VSt} (h:StOk s) (k:Nat) (hk:k<16) (v:Int):stA { s with y:=s.y.set k v }=(stA s).setIfInBounds (2+k) (.int .i64 v):=by
 obtain⟨x,env,y,left,alt,neck⟩:=s
 obtain⟨y0,y1,y2,y3,y4,y5,y6,y7,y8,y9,y10,y11,y12,y13,y14,y15,rfl⟩:=zm1 y h.y
 have h:k=0 ∨ k=1 ∨ k=2 ∨ k=3 ∨ k=4 ∨ k=5 ∨ k=6 ∨ k=7 ∨ k=8 ∨ k=9 ∨ k=10 ∨ k=11 ∨ k=12 ∨ k=13 ∨ k=14 ∨ k=15:=by omega
 rcases h with rfl | rfl | rfl | rfl | rfl | rfl | rfl | rfl | rfl | rfl | rfl | rfl | rfl | rfl | rfl | rfl <;> rfl
def zeroA:Array Value:=#[.int .u32 0,.int .i64 0,.int .i64 0,.int .i64 0,.int .i64 0,.int .i64 0,.int .i64 0,.int .i64 0,.int .i64 0,.int .i64 0,.int .i64 0,.int .i64 0,.int .i64 0,.int .i64 0,.int .i64 0,.int .i64 0,.int .i64 0,.int .i64 0,.int .i64 0,.bool false,.bool false]
theorem zE:zeroA=#[.int .u32 0,.int .i64 0,.int .i64 0,.int .i64 0,.int .i64 0,.int .i64 0,.int .i64 0,.int .i64 0,.int .i64 0,.int .i64 0,.int .i64 0,.int .i64 0,.int .i64 0,.int .i64 0,.int .i64 0,.int .i64 0,.int .i64 0,.int .i64 0,.int .i64 0,.bool false,.bool false]:=rfl
def joinK (s t:VSt) (k:Nat):VSt:={ joinV s t with y:=mixTo s.y t.y k }
theorem zp11 (s t:VSt):joinK s t 0={ { s with x:=s.x &&& t.x } with neck:=s.neck && t.neck }:=by unfold joinK joinV;rw [zg20]
theorem zs14 {s t:VSt} (hs:StOk s) (ht:StOk t):joinK s t 16=joinV s t:=by
 have:=mixTo_all s.y t.y (hs.y.trans ht.y.symm)
 rw [hs.y] at this
 unfold joinK
 rw [this]
 rfl
theorem zg5 {s t:VSt} (hs:StOk s) (ht:StOk t) (k:Nat):StOk (joinK s t k):=⟨(zf8 s.y t.y (hs.y.trans ht.y.symm) k).trans hs.y,Nat.lt_of_le_of_lt Nat.and_le_left hs.x⟩
set_option maxHeartbeats 4000000 in
theorem with_st {s t:VSt} (hs:StOk s) (ht:StOk t) (w:World) :
  Calls Tryz.prog 94 #[.agg (stA s),.agg (stA t)] w fun e w'=>e=.returned (.agg (stA (joinV s t)))∧Below w.heap.size w w':=by
 obtain⟨C,hC⟩:∃ C:Nat→Array Value,∀ k,C k=stA (joinK s t k):=⟨fun k=>_,fun _=>rfl⟩
 obtain⟨Y,hY⟩:∃ Y:Nat→Int,∀ k:Nat,Y k=yAt s (k:Int):=⟨fun k=>_,fun _=>rfl⟩
 obtain⟨Z,hZ⟩:∃ Z:Nat→Int,∀ k:Nat,Z k=yAt t (k:Int):=⟨fun k=>_,fun _=>rfl⟩
 obtain⟨X1,X2,X3,hb⟩:=zw10 w (stA s) (stA t) zeroA 58
 have HB:=hD hb
 have HX:=hD X1
 have HY:=hD X2
 have HZ:=hD X3
 clear hb X1 X2 X3
 have s0:=stA_x s
 have t0:=stA_x t
 have s20:=zy2 hs
 have t20:=zy2 ht
 have HAND:=hD (u32_and_nat s.x t.x (Nat.lt_trans hs.x (by decide)) (Nat.lt_trans ht.x (by decide)))
 have HC0:Hid (C 0=((stA s).setIfInBounds 0 (.int .u32 ((s.x &&& t.x:Nat):Int))).setIfInBounds 20 (.bool (s.neck && t.neck))):=hD (by
  rw [hC,zp11,zo3 (s:={ s with x:=s.x &&& t.x }) ⟨hs.y,Nat.lt_of_le_of_lt Nat.and_le_left hs.x⟩,zy18])
 have HCY:Hid (∀ k,k<16→(C k)[2+k]?=some (.int .i64 (Y k))):=hD (fun k hk=>by
  rw [hC,hY,stA_y (zg5 hs ht k) k hk]
  unfold yAt
  rw [Int.toNat_natCast]
  have:=za13 s.y t.y (hs.y.trans ht.y.symm) k (by rw [hs.y];exact hk)
  show some (Value.int .i64 ((mixTo s.y t.y k).getD k 0))=_
  rw [this])
 have HTY:Hid (∀ k,k<16→(stA t)[2+k]?=some (.int .i64 (Z k))):=hD (fun k hk=>by rw [hZ];exact stA_y ht k hk)
 have HNE:Hid (∀ k,k<16→Y k≠Z k→C (k+1)=(C k).setIfInBounds (2+k) (.int .i64 3)):=hD (fun k hk hne=>by
  rw [hC,hC,← za9 (zg5 hs ht k) k hk 3]
  congr 1
  unfold joinK
  have e:=zn7 s.y t.y (hs.y.trans ht.y.symm) k (by rw [hs.y];exact hk)
  have hm:mixY (s.y.getD k 0) (t.y.getD k 0)=3:=by
   unfold mixY
   rw [hY,hZ] at hne
   unfold yAt at hne
   rw [Int.toNat_natCast] at hne
   rw [if_neg hne]
  rw [hm] at e
  rw [e])
 have HEQ:Hid (∀ k,k<16→Y k=Z k→C (k+1)=C k):=hD (fun k hk he=>by
  rw [hC,hC]
  congr 1
  unfold joinK
  rw [hY,hZ] at he
  unfold yAt at he
  rw [Int.toNat_natCast] at he
  rw [zt11 s.y t.y (hs.y.trans ht.y.symm) k (by rw [hs.y];exact hk) he])
 have HALL:Hid (stA (joinV s t)=C 16):=hD (by rw [hC,zs14 hs ht])
 have HSZ:Hid (∀ k,(C k).size=21):=hD (fun k=>by rw [hC];exact zh (zg5 hs ht k))
 have H1:Hid (∀ k,(C k).all (·.oneCell')=true):=hD (fun k=>by rw [hC];exact zu1 _)
 have HZE:=hD zE
 have HZS:Hid (zeroA.size=21):=hD rfl
 clear hC hY hZ
 generalize stA (joinV s t)=R at HALL ⊢
 generalize zeroA=O at HB HX HY HZ HZE HZS
 generalize stA s=A at HB HX HY HZ HC0 s0 s20 ⊢
 generalize stA t=B at HB HX HY HZ HTY t0 t20 ⊢
 generalize s.x=sx at HAND HC0 s0
 generalize t.x=tx at HAND HC0 t0
 generalize s.neck=sn at HC0 s20
 generalize t.neck=tn at HC0 t20
 generalize sx &&& tx=xx at HAND HC0
 clear hs ht
 go_enter Tryz.func94,Tryz.ntmps94
 go_upto_region 1 with(fail)
 rw [← HZE.out]
 obtain⟨w1,hw1⟩:∃ w1,((w.alloc (.cells A 58)).alloc (.cells B 58)).alloc (.cells O 58)=w1:=⟨_,rfl⟩
 obtain⟨g,hg⟩:∃ g,w.heap.size=g:=⟨_,rfl⟩
 rw [hw1] at HB HX HY HZ ⊢
 have HG:=hD HB.out.size
 rw [hg] at HB HX HY HZ HG ⊢
 clear hw1 HZE
 have c0:=HX.out.cell 0
 have c20:=HX.out.cell 20
 have z0:=HX.out.frozen 0
 have z20:=HX.out.frozen 20
 have d0:=HY.out.cell 0
 have d20:=HY.out.cell 20
 rw [s0] at c0
 rw [s20] at c20
 rw [t0] at d0
 rw [t20] at d20
 clear s0 s20 t0 t20
 obtain⟨nb,hnb⟩:∃ nb,(sn && tn)=nb:=⟨_,rfl⟩
 rw [hnb] at HC0
 have HX2:=hD ((HX.out.set_ 0 (.int .u32 (xx:Int))).set_ 20 (.bool nb))
 rw [← HC0.out] at HX2
 have HY2:=hD ((HY.out.far (p:=⟨g,0,none⟩) (by simp) (.int .u32 (xx:Int))).far (p:=⟨g,20,none⟩) (by simp) (.bool nb))
 have HZ2:=hD ((HZ.out.far (p:=⟨g,0,none⟩) (by simp) (.int .u32 (xx:Int))).far (p:=⟨g,20,none⟩) (by simp) (.bool nb))
 have HB2:=hD ((HB.out.setCell (p:=⟨g,0,none⟩) (Nat.le_refl _) (.int .u32 (xx:Int))).setCell (p:=⟨g,20,none⟩) (Nat.le_refl _) (.bool nb))
 have HAND2:=HAND.out
 clear HC0 HX HY HZ HB HAND
 rcases Bool.eq_false_or_eq_true sn with hsn | hsn
 all_goals
  subst hsn
  try (obtain rfl:tn=nb:=hnb)
  try (obtain rfl:false=nb:=hnb)
  go_upto_region 3 with(fail)
  generalize hw2:(w1.setCell ⟨g,0,none⟩ (.int .u32 (xx:Int))).setCell ⟨g,20,none⟩ _=w2 at HX2 HY2 HZ2 HB2 ⊢
  clear hw2 c0 c20 z0 z20 d0 d20 HAND2
  go_wp2
  go_loopw [5,19] (fun yv i wr=>∃ k:Nat,k≤16∧i=.int .i64 k∧Hid (Box wr g 58 (C k))∧Hid (Box wr (g+1) 58 B)∧Hid (Box wr (g+2) 58 O)∧Hid (Below g w wr)) (fun yv i _=>16 - (intOf i).toNat)
  case atStart=>exact⟨0,by omega,rfl,HX2,HY2,HZ2,HB2⟩
  obtain⟨k,hk,rfl,HX,HY,HZ,HB⟩:=hrel
  clear HX2 HY2 HZ2 HB2
  by_cases hlt:k<16
  case pos=>
   have c1:=HX.out.cell (2+k)
   have z1:=HX.out.frozen (2+k)
   have d1:=HY.out.cell (2+k)
   rw [HCY.out k hlt] at c1
   rw [HTY.out k hlt] at d1
   have i0:(0:Int)≤(k:Int):=by omega
   have i1:(k:Int)<16:=by omega
   by_cases hyz:Y k=Z k
   ·have e1:(Y k != Z k)=false:=by rw [bne_eq_false_iff_eq];exact hyz
    have HN:=hD (HEQ.out k hlt hyz)
    clear hyz
    generalize Y k=yk at c1 e1
    generalize Z k=zk at d1 e1
    go_wp2_with fail
    go_quiet (fail)
    go_wp2
    go_roundw
    case rel=>exact⟨k+1,by omega,by go_num,hD (by rw [HN.out];exact HX.out.drewN _),hD (HY.out.drewN _),hD (HZ.out.drewN _),hD (bel_dn HB.out _)⟩
    case measure=>simp [intOf];omega
   ·have e1:(Y k != Z k)=true:=by rw [bne_iff_ne];exact hyz
    have HN:=hD (HNE.out k hlt hyz)
    clear hyz
    generalize Y k=yk at c1 e1
    generalize Z k=zk at d1 e1
    go_wp2_with fail
    go_quiet (fail)
    go_wp2
    go_roundw
    case rel=>exact⟨k+1,by omega,by go_num,hD (by rw [HN.out];exact(HX.out.drewN _).set_ (2+k) (.int .i64 3)),hD ((HY.out.drewN _).far (p:=⟨g,2+k,none⟩) (by simp) _),hD ((HZ.out.drewN _).far (p:=⟨g,2+k,none⟩) (by simp) _),hD ((bel_dn HB.out _).setCell (p:=⟨g,2+k,none⟩) (Nat.le_refl _) _)⟩
    case measure=>simp [intOf];omega
  case neg=>
  obtain rfl:k=16:=by omega
  go_wp2_with (first | (refine zf rfl (.tmp 2) rfl g rfl (C 16) HX.out (HSZ.out 16) ?_) | (refine zj1 rfl (.tmp 4) (.tmp 35) rfl (g+2) (C 16) O rfl rfl HZ.out (HSZ.out 16) HZS.out (H1.out 16) ?_))
  exact bodyPost_ret (zj3 rfl _ _ (g+2) (C 16) rfl (HZ.out.row (C 16)) (HSZ.out 16)) rfl ⟨by rw [HALL.out],by rw [hg];exact zx HB.out (by omega) (C 16)⟩
def pdC (p:VPl):List Value:=.bool p.here :: .bool p.bad :: (stA p.s).toList
def pdA (P:List VPl):Array Value:=(P.flatMap pdC).toArray
theorem za2 {p:VPl} (h:StOk p.s):(pdC p).length=23:=by
 have:=zh h
 simp [pdC,this]
theorem zx8 (p:VPl):(pdC p)[0]?=some (.bool p.here):=rfl
theorem zv16 (p:VPl):(pdC p)[1]?=some (.bool p.bad):=rfl
theorem pdC_s (p:VPl) (j:Nat):(pdC p)[2+j]?=(stA p.s)[j]?:=by
 unfold pdC
 rw [Nat.add_comm,List.getElem?_cons_succ,List.getElem?_cons_succ,Array.getElem?_toList]
theorem zt4 (p:VPl):(pdC p).toArray.all (·.oneCell')=true:=by
 refine Array.all_eq_true_iff_forall_mem.2 fun v hv=>?_
 simp only [pdC,List.mem_toArray,List.mem_cons] at hv
 rcases hv with rfl | rfl | hv
 ·rfl
 ·rfl
 ·exact Array.all_eq_true_iff_forall_mem.1 (zu1 p.s) v (by simpa using hv)
theorem zf13 {P:List VPl} (h:PlOk P):(pdA P).size=P.length * 23:=by
 unfold pdA
 rw [List.size_toArray]
 exact zd2 pdC 23 P (fun p hp=>za2 (h p hp))
theorem pdA_at {P:List VPl} (h:PlOk P) {n:Nat} (hn:n<P.length) {j:Nat} (hj:j<23):(pdA P)[n * 23+j]?=(pdC P[n])[j]?:=by
 unfold pdA
 rw [List.getElem?_toArray]
 exact zi2 pdC 23 P (fun p hp=>za2 (h p hp)) n P[n] (List.getElem?_eq_getElem hn) j hj
theorem pdA_ext {P:List VPl} (h:PlOk P) {A:Array Value} (hs:A.size=P.length * 23) (ha:∀ k (hk:k<P.length) j,j<23→A[k * 23+j]?=(pdC P[k])[j]?):A=pdA P:=by
 apply Array.ext_getElem?
 intro m
 by_cases hm:m<P.length * 23
 ·have hk:m / 23<P.length:=by omega
  have e:m=m / 23 * 23+m % 23:=by omega
  rw [e,ha (m / 23) hk (m % 23) (Nat.mod_lt _ (by decide)),pdA_at h hk (Nat.mod_lt _ (by decide))]
 ·rw [Array.getElem?_eq_none (by omega),Array.getElem?_eq_none (by rw [zf13 h];omega)]
theorem pdA_put {P:List VPl} (h:PlOk P) {n:Nat} (hn:n<P.length) {q:VPl} (hq:StOk q.s):putL (pdA P) (n * 23) (pdC q)=pdA (P.set n q):=by
 have hl:=za2 hq
 refine pdA_ext (h.set hq) (by rw [zf10,zf13 h,List.length_set]) fun k hk j hj=>?_
 rw [List.length_set] at hk
 rw [zt7 _ _ _ _ (by rw [zf13 h,hl];omega),hl]
 by_cases e:k=n
 ·subst e
  rw [List.getElem_set_self,if_pos (by omega),show k * 23+j - k * 23=j by omega]
 ·rw [if_neg (by omega),pdA_at h hk hj,List.getElem_set_ne (fun x=>e x.symm)]
theorem za10 {w:World} {g:Nat} {t:TypeId} {P:List VPl} (hb:Box w g t (pdA P)) (h:PlOk P) {n:Nat} (hn:n<P.length):w.rangeAt g (n * 23) (pdC P[n]):=by
 intro j v hv
 have hp:=h P[n] (List.getElem_mem hn)
 have hj:j<23:=by
  have:=(List.getElem?_eq_some_iff.1 hv).1
  rw [za2 hp] at this
  exact this
 rw [hb.cell,pdA_at h hn hj]
 exact hv
theorem zz9 {w:World} {g:Nat} {t:TypeId} {P:List VPl} (hb:Box w g t (pdA P)) (h:PlOk P) {n:Nat} (hn:n<P.length):w.there g (n * 23) 23:=by
 intro j hj
 have hp:=h P[n] (List.getElem_mem hn)
 refine⟨?_,hb.frozen _⟩
 rw [hb.cell,pdA_at h hn hj]
 have:=za2 hp
 rw [List.getElem?_eq_getElem (by omega)]
 rfl
/-! The document's State and place,whole in memory. -/
theorem zg1:(Tryz.prog.info? 95).map (·.size)=some 21:=by kernel_rfl
theorem zb2:(Tryz.prog.underlying 95).map TypeDesc.isRow=some true:=by kernel_rfl
theorem zf1:(Tryz.prog.info? 97).map (·.size)=some 23:=by kernel_rfl
theorem zq2:(Tryz.prog.underlying 97).map TypeDesc.isRow=some true:=by kernel_rfl
theorem zh13 {t:TypeId} (hr:(Tryz.prog.underlying t).map TypeDesc.isRow=some true):∃ d,Tryz.prog.underlying t=some d∧d.isRow=true:=by
 cases hu:Tryz.prog.underlying t with
 | none=>rw [hu] at hr;exact absurd hr (by decide)
 | some d=>
  rw [hu] at hr
  exact⟨d,rfl,Option.some.inj hr⟩
section
variable {t:TypeId} {N:Nat}
theorem zu (hr:(Tryz.prog.underlying t).map TypeDesc.isRow=some true) (hz:(Tryz.prog.info? t).map (·.size)=some N) {ops:Array Oper} {rest:List Oper} {op:Oper} {a:Act} {w:World} {Q:Exit→Act→World→Prop} (hw:Region.wanted op (yielded ops a.tmps)=true) (x:Operand) (ho:op.op=.load t x)
  (g o:Nat) (hx:a.eval x=.pointer (some ⟨g,o,none⟩)) (A:Array Value) (hb:w.rangeAt g o A.toList) (hs:A.size=N)
  (h:wpList Tryz.prog ops Q rest (a.put op.dst (.agg A)) w):wpList Tryz.prog ops Q (op :: rest) a w:=by
 obtain⟨d,hd,hd'⟩:=zh13 hr
 refine BigFrame.wpList_want hw fun K hK=>wp_load_mid t x ho g o hx A.toList d hb hd hd' (by rw [Array.length_toList,hs];exact hz) ?_
 rw [Array.toArray_toList]
 exact hK _ _ h
theorem ze (hz:(Tryz.prog.info? t).map (·.size)=some N) {ops:Array Oper} {rest:List Oper} {op:Oper} {a:Act} {w:World} {Q:Exit→Act→World→Prop} (hgd:op.guard=none) (x y:Operand) (ho:op.op=.store t x y)
  (g o:Nat) (A:Array Value) (hx:a.eval x=.pointer (some ⟨g,o,none⟩)) (hy:a.eval y=.agg A) (ht:w.there g o N) (hs:A.size=N) (h1:A.all (·.oneCell')=true)
  (h:wpList Tryz.prog ops Q rest (a.put op.dst undef) (w.setCells g o A.toList)):wpList Tryz.prog ops Q (op :: rest) a w:=
 wpList_store_mid hgd t x y ho g o A hx hy (by rw [hs];exact ht) (by rw [hs];exact hz) h1 h
theorem zr1 (hr:(Tryz.prog.underlying t).map TypeDesc.isRow=some true) (hz:(Tryz.prog.info? t).map (·.size)=some N) {fn:Func} {p:Tmp} (h:fn.results=#[.cell p t]) (tmps:Array Value) (w:World) (g:Nat) (A:Array Value)
  (hp:tmps.getD p undef=.pointer (some ⟨g,0,none⟩)) (hb:Box w g t A) (hs:A.size=N):(results fn tmps).run Tryz.prog w=.ok (.agg A) w:=by
 obtain⟨d,hd,hd'⟩:=zh13 hr
 exact results_cell_row h tmps w g t A (0,0) d hp hb hd (by cases d <;> first | rfl | exact absurd hd' Bool.false_ne_true) (by rw [hs];exact hz)
end
theorem zr {w:World} {g:Nat} {t:TypeId} {A:Array Value} (h:Box w g t A) {o m:Nat} (hm:o+m≤A.size):w.there g o m:=fun j hj=>⟨by rw [h.cell,Array.getElem?_eq_getElem (by omega)];rfl,h.frozen _⟩
theorem zj {w:World} {g:Nat} {t:TypeId} {A:Array Value} (h:Box w g t A):w.rangeAt g 0 A.toList:=fun j v hv=>by
 rw [h.cell,Nat.zero_add,← Array.getElem?_toList]
 exact hv
theorem zw {w:World} {g:Nat} {t:TypeId} {A B:Array Value} (h:Box w g t B) (hs:A.size=B.size):Box (w.setCells g 0 A.toList) g t A:=by
 have h1:=Box.setCells A.toList w B 0 h
 have e:putL B 0 A.toList=A:=by
  apply Array.ext_getElem?
  intro j
  rw [zt7 _ _ _ _ (by rw [Array.length_toList];omega),Array.length_toList]
  by_cases hj:j<A.size
  ·rw [if_pos (by omega),Nat.sub_zero,Array.getElem?_toList]
  ·rw [if_neg (by omega),Array.getElem?_eq_none (by omega),Array.getElem?_eq_none (by omega)]
 rw [e] at h1
 exact h1
theorem zg {b g:Nat}:∀ (vs:List Value) (w w':World) (o:Nat),Below b w w'→b≤g→Below b w (w'.setCells g o vs)
 | [],_,_,_,h,_=>h
 | v :: r,w,w',o,h,hg=>zg r w _ (o+1) (h.setCell (p:=⟨g,o,none⟩) hg v) hg
theorem zu7 (n:Nat) (hn:n≤8) (w:World) :
  Calls Tryz.prog 30 #[.int .i64 n] w fun e w'=>e=.returned (.int .u32 ((2 ^ n - 1:Nat):Int))∧w=w':=by
 go_enter Tryz.func30,Tryz.ntmps30
 go_wp2
 go_loopw [3,4] (fun x i wr=>∃ (k:Nat) (y:Int),k≤n∧i=.int .i64 k∧x=.int .u32 y∧Hid (y=((2 ^ k - 1:Nat):Int))∧Hid (w=wr)) (fun _ i _=>n - (intOf i).toNat)
 case atStart=>exact⟨0,0,by omega,rfl,rfl,hD rfl,hD rfl⟩
 obtain⟨k,y,hk,rfl,rfl,HY,HB⟩:=hrel
 by_cases hlt:k<n
 case pos=>
  have hb:0≤y∧y≤255:=by
   have h1:=HY.out
   have h2:=zh6 (n:=k) (by omega)
   omega
  have e1:2 * y % 4294967296=2 * y:=by omega
  have e2:(2 * y+1) % 4294967296=2 * y+1:=by omega
  go_wp2
  go_roundw
  case rel=>exact⟨k+1,2 * y+1,by omega,by go_num,rfl,hD (by
   have h1:=zs19 k
   have h2:=HY.out
   omega),HB⟩
  case measure=>simp [intOf];omega
 case neg=>
 obtain rfl:k=n:=by omega
 go_wp2
 go_ret
 exact⟨by rw [HY.out];rfl,HB.out⟩
theorem zx2 (x n:Nat) (hx:x<2 ^ 16) (hn:n<16) (w:World) :
  Calls Tryz.prog 67 #[.int .u32 x,.int .i64 n] w fun e w'=>e=.returned (.bool (x.testBit n))∧w=w':=by
 go_enter Tryz.func67,Tryz.ntmps67
 go_wp2
 go_loopw [0,5] (fun y i wr=>∃ (k z:Nat),k≤n∧i=.int .i64 k∧y=.int .u32 z∧Hid (z=x / 2 ^ k)∧Hid (w=wr)) (fun _ i _=>n - (intOf i).toNat)
 case atStart=>exact⟨0,x,by omega,rfl,rfl,hD (by simp),hD rfl⟩
 obtain⟨k,z,hk,rfl,rfl,HY,HB⟩:=hrel
 have hz:z<65536:=by
  have h1:=HY.out
  have h2:x / 2 ^ k≤x:=Nat.div_le_self _ _
  omega
 by_cases hlt:k<n
 case pos=>
  obtain⟨q,hq⟩:∃ q:Nat,z / 2=q:=⟨_,rfl⟩
  have e1:(z:Int).tdiv 2=(q:Int):=by rw [← hq];rfl
  have e2:(q:Int) % 4294967296=(q:Int):=by omega
  have HQ:Hid (q=x / 2 ^ (k+1)):=hD (by rw [← hq,HY.out,half_pow])
  clear hq
  go_wp2
  go_roundw
  case rel=>exact⟨k+1,q,by omega,by go_num,rfl,HQ,HB⟩
  case measure=>simp [intOf];omega
 case neg=>
 obtain rfl:k=n:=by omega
 have HS:Hid ((z:Int).tmod 2=1 ↔ x.testBit k=true):=hD (by
  rw [← set_is,← HY.out,show(z:Int).tmod 2=((z % 2:Nat):Int) from rfl]
  omega)
 cases hb:x.testBit k with
 | true=>
  have e1:(z:Int).tmod 2=1:=HS.out.2 hb
  go_wp2
  go_ret
  exact⟨by rw [hb];rfl,HB.out⟩
 | false=>
  have e1:(z:Int).tmod 2=0:=by
   have h1:¬ (z:Int).tmod 2=1:=fun h=>by rw [HS.out.1 h] at hb;cases hb
   rw [show(z:Int).tmod 2=((z % 2:Nat):Int) from rfl] at h1 ⊢
   omega
  go_wp2
  go_ret
  exact⟨by rw [hb];rfl,HB.out⟩
theorem zn3 (x n:Nat) (hx:x<2 ^ 16) (hn:n<16) (w:World) :
  Calls Tryz.prog 68 #[.int .u32 x,.int .i64 n] w fun e w'=>e=.returned (.int .u32 ((x ||| 2 ^ n:Nat):Int))∧w=w':=by
 have HS:=hD (fun w=>zx2 x n hx hn w)
 have HW:Hid (x.testBit n=false→x+2 ^ n=x ||| 2 ^ n):=hD (zl17 n x)
 have HH:Hid (x.testBit n=true→x ||| 2 ^ n=x):=hD with_had
 have hlt:x ||| 2 ^ n<2 ^ 16:=or_lt hx hn
 generalize x.testBit n=b at HS HW HH
 obtain⟨r,hr⟩:∃ r:Nat,x ||| 2 ^ n=r:=⟨_,rfl⟩
 rw [hr] at HW HH hlt ⊢
 clear hr
 cases b with
 | true=>
  replace HH:=hD (HH.out rfl)
  clear HW
  go_enter Tryz.func68,Tryz.ntmps68
  go_wp2_with (go_at_call 67;refine(HS.out _).mono ?_;rintro e1 w1 ⟨rfl,hb1⟩;have HB:=hD hb1;clear hb1)
  go_ret
  exact⟨by rw [HH.out];rfl,HB.out⟩
 | false=>
  replace HW:=hD (HW.out rfl)
  clear HH
  go_enter Tryz.func68,Tryz.ntmps68
  go_wp2_with (go_at_call 67;refine(HS.out _).mono ?_;rintro e1 w1 ⟨rfl,hb1⟩;have HB:=hD hb1;clear hb1)
  go_loopw [5,6] (fun y i wr=>∃ (k z:Nat),k≤n∧i=.int .i64 k∧y=.int .u32 z∧Hid (z=2 ^ k)∧Hid (w=wr)) (fun _ i _=>n - (intOf i).toNat)
  case atStart=>exact⟨0,1,by omega,rfl,rfl,hD rfl,HB⟩
  obtain⟨k,z,hk,rfl,rfl,HY,HB⟩:=hrel
  have hz:z<65536:=by
   have h1:=HY.out
   have h2:(2:Nat) ^ k<2 ^ 16:=Nat.pow_lt_pow_right (by decide) (by omega)
   omega
  by_cases hk2:k<n
  case pos=>
   obtain⟨q,hq⟩:∃ q:Nat,2 * z=q:=⟨_,rfl⟩
   have e2:(2 * (z:Int)) % 4294967296=(q:Int):=by omega
   have HQ:Hid (q=2 ^ (k+1)):=hD (by rw [← hq,HY.out,Nat.pow_succ,Nat.mul_comm])
   have HQ2:Hid (2 * (z:Int)=(q:Int)):=hD (by omega)
   clear hq e2
   go_wp2
   go_roundw
   case rel=>exact⟨k+1,q,by omega,by go_num,by rw [HQ2.out],HQ,HB⟩
   case measure=>simp [intOf];omega
  case neg=>
  obtain rfl:k=n:=by omega
  have HE:Hid (x+z=r):=hD (by rw [← HW.out,HY.out])
  have HE2:Hid ((x:Int)+(z:Int)=(r:Int)):=hD (by have:=HE.out;omega)
  go_wp2
  go_ret
  exact⟨by rw [← HE2.out];rfl,HB.out⟩
theorem zh15 (a b:Nat) (ha:a<2 ^ 16) (hb:b<2 ^ 16) (w:World) :
  Calls Tryz.prog 71 #[.int .u32 a,.int .u32 b] w fun e w'=>e=.returned (.int .u32 ((a &&& b:Nat):Int))∧w=w':=by
 have HSA:=hD (fun n hn w=>zx2 a n ha hn w)
 have HSB:=hD (fun n hn w=>zx2 b n hb hn w)
 have HST:=hD (both_step a b)
 have HEN:=hD (both_end (a:=a) (b:=b) ha)
 generalize a &&& b=c at HST HEN ⊢
 have HCB:Hid (∀ k,c % 2 ^ k<2 ^ 16):=hD (fun k=>by
  have h1:=HEN.out
  have h2:c<2 ^ 16:=by rw [← h1];exact Nat.mod_lt _ (by decide)
  exact Nat.lt_of_le_of_lt (Nat.mod_le _ _) h2)
 go_enter Tryz.func71,Tryz.ntmps71
 go_wp2
 go_loopw [5,6] (fun y i wr=>∃ (k z:Nat),k≤16∧i=.int .i64 k∧y=.int .u32 z∧Hid (z=c % 2 ^ k)∧Hid (w=wr)) (fun _ i _=>16 - (intOf i).toNat)
 case atStart=>exact⟨0,0,by omega,rfl,rfl,hD (by simp [Nat.mod_one]),hD rfl⟩
 obtain⟨k,z,hk,rfl,rfl,HY,HB⟩:=hrel
 by_cases hlt:k<16
 case pos=>
  have HA1:=hD (fun w=>HSA.out k hlt w)
  have HB1:=hD (fun w=>HSB.out k hlt w)
  have hz:z<2 ^ 16:=by rw [HY.out];exact HCB.out k
  have HW1:=hD (fun w=>zn3 z k hz hlt w)
  have HS1:=hD (HST.out k)
  have i1:(k:Int)<16:=by omega
  generalize a.testBit k=ba at HA1 HS1
  generalize b.testBit k=bb at HB1 HS1
  have A0:True:=trivial
  cases ba with
  | false=>
   have HQ:Hid (z=c % 2 ^ (k+1)):=hD (by rw [HS1.out,if_neg (by simp),HY.out])
   go_wp2_with (go_at_call 67;refine(HA1.out _).mono ?_;rintro e1 w1 ⟨rfl,hb1⟩;have HB:=hD (HB.out.trans hb1);clear hb1)
   go_roundw
   case rel=>exact⟨k+1,z,by omega,by go_num,rfl,HQ,HB⟩
   case measure=>simp [intOf];omega
  | true=>
   cases bb with
   | false=>
    have HQ:Hid (z=c % 2 ^ (k+1)):=hD (by rw [HS1.out,if_neg (by simp),HY.out])
    go_wp2_with (first | (clear A0;go_at_call 67;refine(HA1.out _).mono ?_;rintro e1 w1 ⟨rfl,hb1⟩;have HB:=hD (HB.out.trans hb1);clear hb1) | (go_at_call 67;refine(HB1.out _).mono ?_;rintro e1 w1 ⟨rfl,hb1⟩;have HB:=hD (HB.out.trans hb1);clear hb1))
    go_roundw
    case rel=>exact⟨k+1,z,by omega,by go_num,rfl,HQ,HB⟩
    case measure=>simp [intOf];omega
   | true=>
    have HQ:Hid (z ||| 2 ^ k=c % 2 ^ (k+1)):=hD (by rw [HS1.out,if_pos ⟨rfl,rfl⟩,HY.out])
    generalize z ||| 2 ^ k=q at HQ HW1
    go_wp2_with (first | (clear A0;go_at_call 67;refine(HA1.out _).mono ?_;rintro e1 w1 ⟨rfl,hb1⟩;have HB:=hD (HB.out.trans hb1);clear hb1) | (go_at_call 67;refine(HB1.out _).mono ?_;rintro e1 w1 ⟨rfl,hb1⟩;have HB:=hD (HB.out.trans hb1);clear hb1) | (go_at_call 68;refine(HW1.out _).mono ?_;rintro e1 w1 ⟨rfl,hb1⟩;have HB:=hD (HB.out.trans hb1);clear hb1))
    go_roundw
    case rel=>exact⟨k+1,q,by omega,by go_num,rfl,HQ,HB⟩
    case measure=>simp [intOf];omega
 case neg=>
 obtain rfl:k=16:=by omega
 have HE:Hid (z=c):=hD (by rw [HY.out,HEN.out])
 go_wp2
 go_ret
 exact⟨by rw [HE.out];rfl,HB.out⟩
theorem zw6 {s:VSt} (hs:StOk s) (r:Int) (h0:0≤r) (hr:r<32) (w:World) :
  Calls Tryz.prog 64 #[.agg (stA s),.int .i64 r] w fun e w'=>e=.returned (.bool (mayV s r))∧Below w.heap.size w w':=by
 have HB:=hD (za w (.cells (stA s) 95))
 have HX:=hD (Box.new w 95 (stA s))
 by_cases h:r<16
 ·have HR:Hid (mayV s r=true):=hD (by unfold mayV;rw [decide_eq_true h,Bool.true_or])
  generalize mayV s r=res at HR ⊢
  generalize stA s=A at HB HX ⊢
  go_enter Tryz.func64,Tryz.ntmps64
  go_wp2
  go_ret
  exact⟨by rw [HR.out];rfl,HB.out⟩
 ·obtain⟨k,rfl⟩:∃ k:Nat,r=(k:Int)+16:=⟨(r - 16).toNat,by omega⟩
  have hk:k<16:=by omega
  have e1:(k:Int)+16 - 16=k:=by omega
  have e2:¬ ((k:Int)+16<16):=by omega
  have i0:(0:Int)≤(k:Int):=by omega
  have i1:(k:Int)<16:=by omega
  have HR:Hid (mayV s ((k:Int)+16)=(decide ((k:Int)<s.env) && decide (yAt s k=0))):=hD (by unfold mayV;rw [decide_eq_false e2,Bool.false_or,e1])
  have x1:=HX.out.cell 1
  have xy:=HX.out.cell (2+k)
  rw [zs2] at x1
  rw [stA_y hs k hk] at xy
  generalize mayV s ((k:Int)+16)=res at HR ⊢
  generalize stA s=A at HB HX x1 xy ⊢
  generalize s.env=en at x1 HR
  generalize yAt s (k:Int)=y at xy HR
  by_cases h1:(k:Int)<en
  ·by_cases h2:y=0
   ·have HR':Hid (res=true):=hD (by rw [HR.out,decide_eq_true h1,decide_eq_true h2];rfl)
    subst h2
    go_enter Tryz.func64,Tryz.ntmps64
    go_wp2
    go_ret
    exact⟨by rw [HR'.out];rfl,HB.out⟩
   ·have HR':Hid (res=false):=hD (by rw [HR.out,decide_eq_false h2,Bool.and_false])
    have h3:(y == 0)=false:=beq_eq_false_iff_ne.2 h2
    go_enter Tryz.func64,Tryz.ntmps64
    go_wp2
    go_ret
    exact⟨by rw [HR'.out];rfl,HB.out⟩
  ·have HR':Hid (res=false):=hD (by rw [HR.out,decide_eq_false h1,Bool.false_and])
   go_enter Tryz.func64,Tryz.ntmps64
   go_wp2
   go_ret
   exact⟨by rw [HR'.out];rfl,HB.out⟩
theorem zz5 {s:VSt} (hs:StOk s) (r:Int) (h0:0≤r) (hr:r<32) (w:World) :
  Calls Tryz.prog 65 #[.agg (stA s),.int .i64 r] w fun e w'=>e=.returned (.bool (termV s r))∧Below w.heap.size w w':=by
 have HB:=hD (za w (.cells (stA s) 95))
 have HX:=hD (Box.new w 95 (stA s))
 by_cases h:r<16
 ·obtain⟨k,rfl⟩:∃ k:Nat,r=(k:Int):=⟨r.toNat,by omega⟩
  have HS:=hD (fun w=>zx2 s.x k hs.x (by omega) w)
  have HR:Hid (termV s (k:Int)=s.x.testBit k):=hD (by unfold termV;rw [if_pos h];rfl)
  have x0:=HX.out.cell 0
  rw [stA_x] at x0
  generalize termV s (k:Int)=res at HR ⊢
  generalize s.x.testBit k=b at HR HS
  generalize stA s=A at HB HX x0 ⊢
  generalize s.x=x at x0 HS
  go_enter Tryz.func65,Tryz.ntmps65
  go_wp2_with (go_at_call 67;refine(HS.out _).mono ?_;rintro e1 w1 ⟨rfl,rfl⟩)
  go_ret
  exact⟨by rw [HR.out];rfl,HB.out⟩
 ·obtain⟨k,rfl⟩:∃ k:Nat,r=(k:Int)+16:=⟨(r - 16).toNat,by omega⟩
  have hk:k<16:=by omega
  have e1:(k:Int)+16 - 16=k:=by omega
  have e2:¬ ((k:Int)+16<16):=by omega
  have i0:(0:Int)≤(k:Int):=by omega
  have i1:(k:Int)<16:=by omega
  have HR:Hid (termV s ((k:Int)+16)=(decide ((k:Int)<s.env) && decide (yAt s k=1))):=hD (by unfold termV;rw [if_neg e2,e1])
  have x1:=HX.out.cell 1
  have xy:=HX.out.cell (2+k)
  rw [zs2] at x1
  rw [stA_y hs k hk] at xy
  generalize termV s ((k:Int)+16)=res at HR ⊢
  generalize stA s=A at HB HX x1 xy ⊢
  generalize s.env=en at x1 HR
  generalize yAt s (k:Int)=y at xy HR
  by_cases h1:(k:Int)<en
  ·by_cases h2:y=1
   ·have HR':Hid (res=true):=hD (by rw [HR.out,decide_eq_true h1,decide_eq_true h2];rfl)
    subst h2
    go_enter Tryz.func65,Tryz.ntmps65
    go_wp2
    go_ret
    exact⟨by rw [HR'.out];rfl,HB.out⟩
   ·have HR':Hid (res=false):=hD (by rw [HR.out,decide_eq_false h2,Bool.and_false])
    have h3:(y == 1)=false:=beq_eq_false_iff_ne.2 h2
    go_enter Tryz.func65,Tryz.ntmps65
    go_wp2
    go_ret
    exact⟨by rw [HR'.out];rfl,HB.out⟩
  ·have HR':Hid (res=false):=hD (by rw [HR.out,decide_eq_false h1,Bool.false_and])
   go_enter Tryz.func65,Tryz.ntmps65
   go_wp2
   go_ret
   exact⟨by rw [HR'.out];rfl,HB.out⟩
theorem zj10 {s:VSt} (hs:StOk s) (r:Int) (h0:0≤r) (hr:r<32) (w:World) :
  Calls Tryz.prog 66 #[.agg (stA s),.int .i64 r] w fun e w'=>e=.returned (.agg (stA (becV s r)))∧Below w.heap.size w w':=by
 obtain⟨hx1,hx2,hb⟩:=zb7 w (stA s) zeroA 95
 have HB:=hD hb
 have HX:=hD hx1
 have HZ:=hD hx2
 clear hb hx1 hx2
 have HZE:=hD zE
 have HZS:Hid (zeroA.size=21):=hD rfl
 have HSZ:=hD (zh (hs.bec h0 hr))
 have HS1:=hD (zu1 (becV s r))
 generalize zeroA=O at HB HX HZ HZE HZS
 by_cases h:r<16
 ·obtain⟨k,rfl⟩:∃ k:Nat,r=(k:Int):=⟨r.toNat,by omega⟩
  have hk:k<16:=by omega
  have HS:=hD (fun w=>zn3 s.x k hs.x hk w)
  have HE:Hid (stA (becV s (k:Int))=(stA s).setIfInBounds 0 (.int .u32 ((s.x ||| 2 ^ k:Nat):Int))):=hD (by
   unfold becV
   rw [if_pos h]
   exact za6 s k)
  have x0:=HX.out.cell 0
  have z0:=HX.out.frozen 0
  rw [stA_x] at x0
  generalize stA (becV s (k:Int))=C at HE HSZ HS1 ⊢
  generalize stA s=A at HB HX HZ HE x0 z0 ⊢
  generalize s.x ||| 2 ^ k=r at HE HS
  generalize s.x=x at x0 HS
  have HX2:=hD (HX.out.set_ 0 (.int .u32 (r:Int)))
  rw [← HE.out] at HX2
  have HZ2:=hD (HZ.out.far (p:=⟨w.heap.size,0,none⟩) (by simp) (.int .u32 (r:Int)))
  have HB2:=hD (HB.out.setCell (p:=⟨w.heap.size,0,none⟩) (Nat.le_refl _) (.int .u32 (r:Int)))
  go_enter Tryz.func66,Tryz.ntmps66
  go_upto_region 1 with(fail)
  rw [← HZE.out]
  obtain⟨w1,hw1⟩:∃ w1,(w.alloc (.cells A 95)).alloc (.cells O 95)=w1:=⟨_,rfl⟩
  obtain⟨g,hg⟩:∃ g,w.heap.size=g:=⟨_,rfl⟩
  rw [hw1] at HX HX2 HZ2 HB2 x0 z0 ⊢
  rw [hg] at HX HX2 HZ2 HB2 x0 z0 ⊢
  clear hw1 HZE HB HZ
  go_wp2_with (first | (go_at_call 68;refine(HS.out _).mono ?_;rintro e1 w2 ⟨rfl,rfl⟩) | (refine zu zb2 zg1 (by rfl) (.tmp 2) rfl g 0 rfl C (zj HX2.out) HSZ.out ?_) | (refine ze zg1 rfl (.tmp 4) (.tmp 16) rfl (g+1) 0 C rfl rfl (zr HZ2.out (by rw [HZS.out];decide)) HSZ.out HS1.out ?_))
  exact bodyPost_ret (zr1 zb2 zg1 rfl _ _ (g+1) C rfl (zw HZ2.out (HSZ.out.trans HZS.out.symm)) HSZ.out) rfl ⟨rfl,by first | exact zg C.toList _ _ 0 HB2.out (by omega) | (rw [hg];exact zg C.toList _ _ 0 HB2.out (by omega))⟩
 ·obtain⟨k,rfl⟩:∃ k:Nat,r=(k:Int)+16:=⟨(r - 16).toNat,by omega⟩
  have hk:k<16:=by omega
  have e1:(k:Int)+16 - 16=k:=by omega
  have e2:¬ ((k:Int)+16<16):=by omega
  have i0:(0:Int)≤(k:Int):=by omega
  have i1:(k:Int)<16:=by omega
  have HE:Hid (stA (becV s ((k:Int)+16))=(stA s).setIfInBounds (2+k) (.int .i64 1)):=hD (by
   unfold becV
   rw [if_neg e2,show((k:Int)+16 - 16).toNat=k by omega]
   exact zz18 hs k hk)
  have x0:=HX.out.cell (2+k)
  have z0:=HX.out.frozen (2+k)
  rw [stA_y hs k hk] at x0
  generalize stA (becV s ((k:Int)+16))=C at HE HSZ HS1 ⊢
  generalize stA s=A at HB HX HZ HE x0 z0 ⊢
  generalize yAt s (k:Int)=y at x0
  have HX2:=hD (HX.out.set_ (2+k) (.int .i64 1))
  rw [← HE.out] at HX2
  have HZ2:=hD (HZ.out.far (p:=⟨w.heap.size,2+k,none⟩) (by simp) (.int .i64 1))
  have HB2:=hD (HB.out.setCell (p:=⟨w.heap.size,2+k,none⟩) (Nat.le_refl _) (.int .i64 1))
  go_enter Tryz.func66,Tryz.ntmps66
  go_upto_region 1 with(fail)
  rw [← HZE.out]
  obtain⟨w1,hw1⟩:∃ w1,(w.alloc (.cells A 95)).alloc (.cells O 95)=w1:=⟨_,rfl⟩
  obtain⟨g,hg⟩:∃ g,w.heap.size=g:=⟨_,rfl⟩
  rw [hw1] at HX HX2 HZ2 HB2 x0 z0 ⊢
  rw [hg] at HX HX2 HZ2 HB2 x0 z0 ⊢
  clear hw1 HZE HB HZ
  go_wp2_with (first | (refine zu zb2 zg1 (by rfl) (.tmp 2) rfl g 0 rfl C (zj HX2.out) HSZ.out ?_) | (refine ze zg1 rfl (.tmp 4) (.tmp 16) rfl (g+1) 0 C rfl rfl (zr HZ2.out (by rw [HZS.out];decide)) HSZ.out HS1.out ?_))
  exact bodyPost_ret (zr1 zb2 zg1 rfl _ _ (g+1) C rfl (zw HZ2.out (HSZ.out.trans HZS.out.symm)) HSZ.out) rfl ⟨rfl,by first | exact zg C.toList _ _ 0 HB2.out (by omega) | (rw [hg];exact zg C.toList _ _ 0 HB2.out (by omega))⟩
theorem zw5 {s:VSt} (hs:StOk s) (n:Nat) (hn:n≤8) (w:World) :
  Calls Tryz.prog 69 #[.agg (stA s),.int .i64 n] w fun e w'=>e=.returned (.bool (coverV s n))∧Below w.heap.size w w':=by
 have HB:=hD (za w (.cells (stA s) 95))
 have hx:=Box.new w 95 (stA s)
 have x0:=hx.cell 0
 rw [stA_x] at x0
 have hf:=zh6 hn
 have HF:=hD (fun w=>zu7 n hn w)
 have HO:=hD (fun w=>zh15 s.x (2 ^ n - 1) hs.x (Nat.lt_of_lt_of_le hf (by decide)) w)
 have HR:Hid (coverV s (n:Int)=decide (s.x &&& (2 ^ n - 1)=2 ^ n - 1)):=hD (by unfold coverV;rw [Int.toNat_natCast])
 generalize coverV s (n:Int)=res at HR ⊢
 generalize stA s=A at HB x0 ⊢
 generalize s.x=x at x0 HO HR
 generalize 2 ^ n - 1=f at HF HO HR
 generalize x &&& f=c at HO HR
 have HE:Hid (((c:Int) == (f:Int))=res):=hD (by
  rw [HR.out,Bool.eq_iff_iff,beq_iff_eq,decide_eq_true_eq]
  omega)
 clear hx hf hs
 go_enter Tryz.func69,Tryz.ntmps69
 go_upto_region 1 with(fail)
 obtain⟨w1,hw1⟩:∃ w1,w.alloc (.cells A 95)=w1:=⟨_,rfl⟩
 obtain⟨g,hg⟩:∃ g,w.heap.size=g:=⟨_,rfl⟩
 rw [hw1] at HB x0 ⊢
 rw [hg] at x0 ⊢
 clear hw1
 go_quiet (first | (go_at_call 30;exact Calls.quiet_of_same ((HF.out _).mono fun _ _ h=>⟨h.1,h.2.symm⟩)) | (go_at_call 71;exact Calls.quiet_of_same ((HO.out _).mono fun _ _ h=>⟨h.1,h.2.symm⟩)))
 go_wp2
 go_ret
 exact⟨by rw [← HE.out];rfl,by first | exact bel_dn HB.out _ | (rw [← hg];exact bel_dn HB.out _)⟩
theorem zd3 (op:Int) (w:World) :
  Calls Tryz.prog 33 #[.int .i64 op] w fun e w'=>e=.returned (.bool (onV op))∧w=w':=by
 obtain⟨res,hres⟩:∃ res,onV op=res:=⟨_,rfl⟩
 rw [hres]
 have HR:=hD hres
 clear hres
 by_cases h0:op=0
 ·subst h0
  go_enter Tryz.func33,Tryz.ntmps33
  go_wp2
  go_ret
  exact⟨by rw [← HR.out];rfl,rfl⟩
 by_cases h1:op=18
 ·subst h1
  go_enter Tryz.func33,Tryz.ntmps33
  go_wp2
  go_ret
  exact⟨by rw [← HR.out];rfl,rfl⟩
 by_cases h2:op=19
 ·subst h2
  go_enter Tryz.func33,Tryz.ntmps33
  go_wp2
  go_ret
  exact⟨by rw [← HR.out];rfl,rfl⟩
 by_cases h3:op=26
 ·subst h3
  go_enter Tryz.func33,Tryz.ntmps33
  go_wp2
  go_ret
  exact⟨by rw [← HR.out];rfl,rfl⟩
 have HT:Hid (res=true):=hD (by rw [← HR.out,onV,decide_eq_false h0,decide_eq_false h1,decide_eq_false h2,decide_eq_false h3];rfl)
 clear HR
 have e0:(op != 0)=true:=bne_iff_ne.2 h0
 have e1:(op != 18)=true:=bne_iff_ne.2 h1
 have e2:(op != 19)=true:=bne_iff_ne.2 h2
 have e3:(op != 26)=true:=bne_iff_ne.2 h3
 go_enter Tryz.func33,Tryz.ntmps33
 go_wp2
 go_ret
 exact⟨by rw [HT.out];rfl,rfl⟩
end Go.Proofs.YtlmbiafloiompaaGreatDoor
