/-
  6 texts in one (VerN VerO VerI VerJ VerK VDocI). Conditions: those of each theorem.
-/
import Derived.Test.YtlmbiafloiompaaGreatDoorJL09
namespace Go.Proofs.YtlmbiafloiompaaGreatDoor
open Go
set_option linter.unusedVariables false
set_option linter.unusedSimpArgs false
theorem ze4 (o:Ob) (n:Int):∀ m,(((List.range m).foldl (ownStep o n) (-1) = -1∧∀ k,k<m→¬ entP o (k:Int)≤n) ∨
  (∃ j:Nat,j<m∧(List.range m).foldl (ownStep o n) (-1)=(j:Int)∧entP o (j:Int)≤n∧∀ k,k<m→entP o (k:Int)≤n→entP o (k:Int)≤entP o (j:Int)))
 | 0=>.inl ⟨rfl,fun k h=>absurd h (by omega)⟩
 | m+1=>by
  rw [List.range_succ,List.foldl_append]
  show(ownStep o n _ m = -1∧_) ∨ _
  rcases ze4 o n m with⟨h1,h2⟩ | ⟨j,hj,h1,h2,h3⟩
  ·by_cases h:entP o (m:Int)≤n
   ·right
    refine⟨m,by omega,?_,h,fun k hk hkn=>?_⟩
    ·show ownStep o n _ m=_
     rw [h1,ownStep,if_pos ⟨h,.inl (by decide)⟩]
    ·by_cases e:k=m
     ·subst e;exact Int.le_refl _
     ·exact absurd hkn (h2 k (by omega))
   ·left
    refine⟨by rw [h1,ownStep,if_neg (fun x=>h x.1)],fun k hk hkn=>?_⟩
    by_cases e:k=m
    ·subst e;exact h hkn
    ·exact h2 k (by omega) hkn
  ·right
   by_cases h:entP o (m:Int)≤n∧entP o (j:Int)<entP o (m:Int)
   ·refine⟨m,by omega,?_,h.1,fun k hk hkn=>?_⟩
    ·show ownStep o n _ m=_
     rw [h1,ownStep,if_pos ⟨h.1,.inr h.2⟩]
    ·by_cases e:k=m
     ·subst e;exact Int.le_refl _
     ·have:=h3 k (by omega) hkn
      omega
   ·refine⟨j,by omega,?_,h2,fun k hk hkn=>?_⟩
    ·show ownStep o n _ m=_
     rw [h1,ownStep,if_neg]
     rintro⟨x1,x2⟩
     rcases x2 with x2 | x2
     ·omega
     ·exact h ⟨x1,x2⟩
    ·by_cases e:k=m
     ·subst e
      by_cases x:entP o (j:Int)<entP o (k:Int)
      ·exact absurd ⟨hkn,x⟩ h
      ·omega
     ·exact h3 k (by omega) hkn
theorem zh8 (c:Int):∀ (l:List (ByteArray × Int × Int)) (m:Int),(l.foldl (fun m p=>min m p.2.2) m=m ∨ ∃ p ∈ l,l.foldl (fun m p=>min m p.2.2) m=p.2.2)∧l.foldl (fun m p=>min m p.2.2) m≤m∧∀ p ∈ l,l.foldl (fun m p=>min m p.2.2) m≤p.2.2
 | [],m=>⟨.inl rfl,Int.le_refl _,fun p hp=>by cases hp⟩
 | q :: l,m=>by
  obtain⟨h1,h2,h3⟩:=zh8 c l (min m q.2.2)
  rw [List.foldl_cons]
  refine⟨?_,by omega,fun p hp=>?_⟩
  ·rcases h1 with h1 | ⟨p,hp,h1⟩
   ·rw [h1]
    by_cases h:m≤q.2.2
    ·left;omega
    ·right;exact⟨q,List.mem_cons_self,by omega⟩
   ·exact .inr ⟨p,List.mem_cons_of_mem _ hp,h1⟩
  ·rcases List.mem_cons.1 hp with rfl | hp
   ·omega
   ·exact h3 p hp
def nextEnt (n:Nat):List (ByteArray × Int × Int)→Int
 | []=>(n:Int)
 | p :: _=>p.2.2
theorem place_in {o:Ob} {A L:List (ByteArray × Int × Int)} {p:ByteArray × Int × Int} (hperm:(A ++ p :: L).Perm o.preds) (hs:(A ++ p :: L).Pairwise (fun p q=>p.2.2<q.2.2)) {n:Int} (h0:p.2.2≤n) (h1:n<nextEnt o.code.length L) (hlt:∀ q ∈ o.preds,q.2.2<(o.code.length:Int)) :
  (∃ j:Nat,ownV o n=(j:Int)∧o.preds[j]?=some p)∧stopV o n=nextEnt o.code.length L:=by
 rw [List.pairwise_append] at hs
 obtain⟨hA,hpL,hAL⟩:=hs
 rw [List.pairwise_cons] at hpL
 obtain⟨hp,hL⟩:=hpL
 have hmem:∀ q,q ∈ o.preds ↔ q ∈ A ∨ q=p ∨ q ∈ L:=fun q=>by rw [← hperm.mem_iff];simp
 have hless:∀ q ∈ L,n<q.2.2:=by
  intro q hq
  cases L with
  | nil=>cases hq
  | cons r L'=>
   have hr:n<r.2.2:=h1
   rcases List.mem_cons.1 hq with rfl | hq
   ·exact hr
   ·rw [List.pairwise_cons] at hL
    have:=hL.1 q hq
    omega
 constructor
 ·have hent:∀ k:Nat,k<o.preds.length→∃ q ∈ o.preds,o.preds[k]?=some q∧entP o (k:Int)=q.2.2:=fun k hk=>⟨o.preds[k],List.getElem_mem hk,List.getElem?_eq_getElem hk,by unfold entP;rw [Int.toNat_natCast,List.getD_eq_getElem?_getD,List.getElem?_eq_getElem hk];rfl⟩
  obtain⟨i,hi,hpi⟩:=List.getElem_of_mem ((hmem p).2 (.inr (.inl rfl)))
  have hei:entP o (i:Int)=p.2.2:=by
   obtain⟨q,_,h2,h3⟩:=hent i hi
   rw [List.getElem?_eq_getElem hi,hpi] at h2
   injection h2 with h2
   rw [h3,h2]
  unfold ownV
  rcases ze4 o n o.preds.length with⟨_,h2⟩ | ⟨j,hj,h2,h3,h4⟩
  ·exact absurd (by rw [hei];exact h0) (h2 i hi)
  ·refine⟨j,h2,?_⟩
   obtain⟨q,hq,h5,h6⟩:=hent j hj
   have h7:=h4 i hi (by rw [hei];exact h0)
   rw [hei,h6] at h7
   rw [h6] at h3
   rw [h5]
   congr 1
   rcases(hmem q).1 hq with hq' | hq' | hq'
   ·have:=hAL q hq' p List.mem_cons_self
    omega
   ·exact hq'
   ·have:=hless q hq'
    omega
 ·unfold stopV
  obtain⟨h2,h3,h4⟩:=zh8 0 (o.preds.filter fun p=>decide (n<p.2.2)) (o.code.length:Int)
  cases L with
  | nil=>
   rcases h2 with h2 | ⟨q,hq,h2⟩
   ·exact h2
   ·rw [List.mem_filter] at hq
    obtain⟨hq1,hq2⟩:=hq
    have hq3:n<q.2.2:=by simpa using hq2
    rcases(hmem q).1 hq1 with x | x | x
    ·have:=hAL q x p List.mem_cons_self
     omega
    ·subst x;omega
    ·cases x
  | cons r L'=>
   have hr:n<r.2.2:=h1
   have hrm:r ∈ o.preds:=(hmem r).2 (.inr (.inr List.mem_cons_self))
   have h5:=h4 r (List.mem_filter.2 ⟨hrm,by simpa using hr⟩)
   show _=r.2.2
   rcases h2 with h2 | ⟨q,hq,h2⟩
   ·have:=hlt r hrm
    omega
   ·rw [List.mem_filter] at hq
    obtain⟨hq1,hq2⟩:=hq
    have hq3:n<q.2.2:=by simpa using hq2
    rcases(hmem q).1 hq1 with x | x | x
    ·have:=hAL q x p List.mem_cons_self
     omega
    ·subst x;omega
    ·rcases List.mem_cons.1 x with rfl | x
     ·omega
     ·rw [List.pairwise_cons] at hL
      have:=hL.1 q x
      omega
end Go.Proofs.YtlmbiafloiompaaGreatDoor

namespace Go.Proofs.YtlmbiafloiompaaGreatDoor
open Go
set_option linter.unusedVariables false
set_option linter.unusedSimpArgs false
def runS (o:Ob) (ar stop:Int):Nat→Nat→List VPl→Except Nat (List VPl)
 | 0,_,P=>.ok P
 | f+1,n,P=>
  match passV o ar stop n P with
  | none=>.error n
  | some Q=>runS o ar stop f (n+1) Q
def faultP (o:Ob):List (ByteArray × Int × Int)→Nat→List VPl→Except Nat (Nat × List VPl)
 | [],n,P=>.ok (n,P)
 | p :: L,n,P=>
  if (n:Int)<p.2.2 then .error n
  else match runS o p.2.1 (nextEnt o.code.length L) (nextEnt o.code.length L - n).toNat n (bringV P p.2.2 (stEntry p.2.1.toNat)) with
   | .error m=>.error m
   | .ok Q=>faultP o L (nextEnt o.code.length L).toNat Q
theorem zx2 (P:List VPl) (t:Int) (s:VSt) (j:Nat):(bringV P t s)[j]?=if t.toNat=j then(P[j]?).map (fun p=>comeV p s) else P[j]?:=by
 unfold bringV
 rw [List.getElem?_modify]
 split
 ·rfl
 ·cases P[j]? <;> rfl
theorem zc2 (P:List VPl) (t:Int) (s:VSt):(bringV P t s).length=P.length:=by unfold bringV;simp
structure StepV (stop:Int) (n:Nat) (P Q P' Q':List VPl):Prop where
 low:∀ j:Nat,(j:Int)<stop→Q'[j]?=P'[j]?
 highP:∀ j:Nat,stop≤(j:Int)→P'[j]?=P[j]?
 highQ:∀ j:Nat,stop≤(j:Int)→Q'[j]?=Q[j]?
 old:∀ j:Nat,j≤n→P'[j]?=P[j]?
 lenP:P'.length=P.length
 lenQ:Q'.length=Q.length
theorem StepV.bring {stop:Int} {n:Nat} {P Q P' Q':List VPl} (h:StepV stop n P Q P' Q') {t:Int} (h0:(n:Int)<t) (h1:t<stop) (s:VSt):StepV stop n P Q (bringV P' t s) (bringV Q' t s):=by
 refine⟨fun j hj=>?_,fun j hj=>?_,fun j hj=>?_,fun j hj=>?_,by rw [zc2,h.lenP],by rw [zc2,h.lenQ]⟩
 ·rw [zx2,zx2,h.low j hj]
 ·rw [zx2,if_neg (by omega),h.highP j hj]
 ·rw [zx2,if_neg (by omega),h.highQ j hj]
 ·rw [zx2,if_neg (by omega),h.old j hj]
theorem StepV.brings {stop:Int} {n:Nat} {P Q:List VPl} (f:Int→VSt):∀ (l:List Int) (P' Q':List VPl),StepV stop n P Q P' Q'→(∀ t ∈ l,(n:Int)<t∧t<stop)→StepV stop n P Q (l.foldl (fun R t=>bringV R t (f t)) P') (l.foldl (fun R t=>bringV R t (f t)) Q')
 | [],_,_,h,_=>h
 | t :: l,P',Q',h,ht=>by
  rw [List.foldl_cons,List.foldl_cons]
  have h1:=ht t List.mem_cons_self
  exact StepV.brings f l _ _ (h.bring h1.1 h1.2 (f t)) (fun u hu=>ht u (List.mem_cons_of_mem _ hu))
theorem pass_sim {o:Ob} {ar stop:Int} {n:Nat} {P Q:List VPl} (hn:(n:Int)<stop) (h:∀ j:Nat,(j:Int)<stop→Q[j]?=P[j]?) :
  (passV o ar stop n P=none∧passV o ar stop n Q=none) ∨ ∃ P' Q',passV o ar stop n P=some P'∧passV o ar stop n Q=some Q'∧StepV stop n P Q P' Q':=by
 have hp:Q.getD n plZero=P.getD n plZero:=by rw [List.getD_eq_getElem?_getD,List.getD_eq_getElem?_getD,h n hn]
 unfold passV
 simp only
 rw [hp]
 generalize P.getD n plZero=p
 generalize o.code.getD n (0,0,0,0,0)=i
 by_cases hc:p.bad=true ∨ p.here=false ∨ asksV o ar i p.s=false ∨ leadsV stop n i=false
 ·left
  rw [if_pos hc,if_pos hc]
  exact⟨rfl,rfl⟩
 ·right
  rw [if_neg hc,if_neg hc]
  have hl:leadsV stop n i=true:=by
   cases hx:leadsV stop n i with
   | true=>rfl
   | false=>exact absurd (.inr (.inr (.inr hx))) hc
  unfold leadsV at hl
  rw [Bool.and_eq_true] at hl
  have h0:StepV stop n P Q P Q:=⟨h,fun _ _=>rfl,fun _ _=>rfl,fun _ _=>rfl,rfl,rfl⟩
  have hlab:∀ t ∈ labsV i,(n:Int)<t∧t<stop:=fun t ht=>by
   have:=List.all_eq_true.1 hl.2 t ht
   simpa using this
  refine⟨_,_,rfl,rfl,?_⟩
  refine StepV.brings (fun _=>if i.1=26 then makesV o i p.s else stOther ar.toNat) (labsV i) _ _ ?_ hlab
  by_cases ho:onV i.1=true
  ·rw [if_pos ho,if_pos ho]
   have h1:=hl.1
   rw [ho] at h1
   have h2:(n:Int)+1<stop:=by simpa using h1
   exact h0.bring (by omega) h2 _
  ·rw [if_neg ho,if_neg ho]
   exact h0
structure RelV (o:Ob) (L:List (ByteArray × Int × Int)) (stop:Int) (n:Nat) (P Q:List VPl) (l:List VSt):Prop where
 lenP:P.length=o.code.length
 lenQ:Q.length=o.code.length
 low:∀ j:Nat,(j:Int)<stop→Q[j]?=P[j]?
 bare:∀ j:Nat,stop≤(j:Int)→j<o.code.length→P[j]?=some plZero
 ents:∀ p ∈ L,Q[p.2.2.toNat]?=some ⟨true,false,stEntry p.2.1.toNat⟩
 rest:∀ j:Nat,stop≤(j:Int)→j<o.code.length→(∀ p ∈ L,p.2.2.toNat≠j)→Q[j]?=some plZero
 len:l.length=n
 told:∀ j:Nat,j<n→l[j]?=(P[j]?).map (·.s)
theorem run_sim {o:Ob} {ar stop:Int} {L:List (ByteArray × Int × Int)} (hL:∀ p ∈ L,stop≤p.2.2) (hst:stop≤(o.code.length:Int)) (hown:∀ n:Nat,(n:Int)<stop→True) :
  ∀ (f n:Nat) (P Q:List VPl) (l:List VSt),(n:Int)+f=stop→(∀ m:Nat,n≤m→(m:Int)<stop→arityP o (ownV o m)=ar∧stopV o m=stop)→RelV o L stop n P Q l →
   match runS o ar stop f n P with
   | .error m=>walkV o (o.code.length - n) n Q l=.error m
   | .ok P'=>∃ Q' l',walkV o (o.code.length - n) n Q l=walkV o (o.code.length - (n+f)) (n+f) Q' l'∧RelV o L stop (n+f) P' Q' l'
 | 0,n,P,Q,l,hf,hs,h=>⟨Q,l,rfl,h⟩
 | f+1,n,P,Q,l,hf,hs,h=>by
  have hn:(n:Int)<stop:=by omega
  have hnl:n<o.code.length:=by omega
  obtain⟨e1,e2⟩:=hs n (Nat.le_refl _) hn
  have hw:o.code.length - n=(o.code.length - (n+1))+1:=by omega
  rw [runS,hw,walkV,e1,e2]
  rcases pass_sim (o:=o) (ar:=ar) hn h.low with⟨h1,h2⟩ | ⟨P',Q',h1,h2,h3⟩
  ·rw [h1,h2]
  ·rw [h1,h2]
   simp only
   have hrel:RelV o L stop (n+1) P' Q' (l ++ [(Q.getD n plZero).s]):=by
    refine⟨h3.lenP.trans h.lenP,h3.lenQ.trans h.lenQ,h3.low,fun j hj hjl=>(h3.highP j hj).trans (h.bare j hj hjl),fun p hp=>?_,fun j hj hjl hne=>(h3.highQ j hj).trans (h.rest j hj hjl hne),by rw [List.length_append,h.len];rfl,fun j hj=>?_⟩
    ·rw [h3.highQ _ (by have:=hL p hp;omega)]
     exact h.ents p hp
    ·by_cases e:j=n
     ·subst e
      have hQ:Q.getD j plZero=(Q[j]?).getD plZero:=by rw [List.getD_eq_getElem?_getD]
      rw [List.getElem?_append_right (by rw [h.len];exact Nat.le_refl _),h.len,Nat.sub_self,hQ,h.low j hn,h3.old j (Nat.le_refl _)]
      have hjP:j<P.length:=by rw [h.lenP];exact hnl
      rw [List.getElem?_eq_getElem hjP]
      rfl
     ·rw [List.getElem?_append_left (by rw [h.len];omega),h.told j (by omega),h3.old j (by omega)]
   have ih:=run_sim hL hst hown f (n+1) P' Q' _ (by omega) (fun m hm hms=>hs m (by omega) hms) hrel
   have hadd:n+1+f=n+(f+1):=by omega
   rw [hadd] at ih
   exact ih
theorem zh13 {o:Ob} (hlt:∀ q ∈ o.preds,0≤q.2.2∧q.2.2<(o.code.length:Int)) :
  ∀ (L A:List (ByteArray × Int × Int)) (n:Nat) (P Q:List VPl) (l:List VSt),(A ++ L).Perm o.preds→(A ++ L).Pairwise (fun p q=>p.2.2<q.2.2)→(∀ q ∈ L,(n:Int)≤q.2.2)→n≤o.code.length→RelV o L n n P Q l →
   match faultP o L n P with
   | .error m=>walkV o (o.code.length - n) n Q l=.error m
   | .ok (m,P')=>∃ Q' l',m≤o.code.length∧walkV o (o.code.length - n) n Q l=walkV o (o.code.length - m) m Q' l'∧RelV o [] m m P' Q' l'
 | [],A,n,P,Q,l,hp,hs,hge,hnl,h=>⟨Q,l,hnl,rfl,h⟩
 | p :: L,A,n,P,Q,l,hp,hs,hge,hnl,h=>by
  have hpm:p ∈ o.preds:=hp.mem_iff.1 (by simp)
  obtain⟨hp0,hp1⟩:=hlt p hpm
  have hpn:=hge p List.mem_cons_self
  rw [faultP]
  by_cases hc:(n:Int)<p.2.2
  ·rw [if_pos hc]
   have hnl2:n<o.code.length:=by omega
   have hs2:=(List.pairwise_append.1 hs).2.1
   rw [List.pairwise_cons] at hs2
   have hz:Q[n]?=some plZero:=h.rest n (Int.le_refl _) hnl2 (fun q hq=>by
    rcases List.mem_cons.1 hq with rfl | hq
    ·omega
    ·have:=hs2.1 q hq
     omega)
   have hw:o.code.length - n=(o.code.length - n - 1)+1:=by omega
   simp only
   rw [hw,walkV]
   have hno:∀ ar stop,passV o ar stop n Q=none:=by
    intro ar stop
    unfold passV
    simp only
    rw [List.getD_eq_getElem?_getD,hz,Option.getD_some,if_pos (.inr (.inl rfl))]
   rw [hno]
  ·rw [if_neg hc]
   have hpe:p.2.2=(n:Int):=by omega
   have hs2:=(List.pairwise_append.1 hs).2.1
   rw [List.pairwise_cons] at hs2
   have hLn:∀ q ∈ L,(n:Int)<q.2.2:=fun q hq=>by have:=hs2.1 q hq;omega
   have hnl2:n<o.code.length:=by omega
   obtain⟨stop,hstop⟩:∃ stop,nextEnt o.code.length L=stop:=⟨_,rfl⟩
   have hst1:(n:Int)<stop:=by
    rw [← hstop]
    cases L with
    | nil=>show(n:Int)<(o.code.length:Int);omega
    | cons q L=>exact hLn q List.mem_cons_self
   have hst2:stop≤(o.code.length:Int):=by
    rw [← hstop]
    cases L with
    | nil=>exact Int.le_refl _
    | cons q L=>
     have:=(hlt q (hp.mem_iff.1 (by simp))).2
     show q.2.2≤_
     omega
   have hLs:∀ q ∈ L,stop≤q.2.2:=by
    rw [← hstop]
    cases L with
    | nil=>intro q hq;cases hq
    | cons r L=>
     intro q hq
     rcases List.mem_cons.1 hq with rfl | hq
     ·exact Int.le_refl _
     ·have h3:=hs2.2
      rw [List.pairwise_cons] at h3
      have:=h3.1 q hq
      show r.2.2≤_
      omega
   rw [hstop]
   have hPn:P[n]?=some plZero:=h.bare n (Int.le_refl _) hnl2
   have hQn:=h.ents p List.mem_cons_self
   rw [hpe,Int.toNat_natCast] at hQn
   have hrel:RelV o L stop n (bringV P p.2.2 (stEntry p.2.1.toNat)) Q l:=by
    refine⟨by rw [zc2,h.lenP],h.lenQ,fun j hj=>?_,fun j hj hjl=>?_,fun q hq=>h.ents q (List.mem_cons_of_mem _ hq),fun j hj hjl hne=>h.rest j (by omega) hjl (fun q hq=>?_),h.len,fun j hj=>?_⟩
    ·rw [zx2,hpe,Int.toNat_natCast]
     by_cases e:n=j
     ·subst e
      rw [if_pos rfl,hPn,hQn]
      rfl
     ·rw [if_neg e]
      by_cases hjn:j<n
      ·exact h.low j (by omega)
      ·rw [h.bare j (by omega) (by omega),h.rest j (by omega) (by omega) (fun q hq=>?_)]
       rcases List.mem_cons.1 hq with rfl | hq
       ·omega
       ·have:=hLs q hq
        omega
    ·rw [zx2,hpe,Int.toNat_natCast,if_neg (by omega)]
     exact h.bare j (by omega) hjl
    ·rcases List.mem_cons.1 hq with rfl | hq
     ·omega
     ·exact hne q hq
    ·rw [zx2,hpe,Int.toNat_natCast,if_neg (by omega)]
     exact h.told j hj
   have hrun:=run_sim (ar:=p.2.1) hLs hst2 (fun _ _=>trivial) (stop - n).toNat n _ Q l (by omega) (fun m hm hms=>by
    obtain⟨⟨k,hk1,hk2⟩,hk3⟩:=place_in (n:=(m:Int)) hp hs (by omega) (by rw [hstop];exact hms) (fun q hq=>(hlt q hq).2)
    refine⟨?_,by rw [hk3,hstop]⟩
    rw [hk1,arityP,Int.toNat_natCast,List.getD_eq_getElem?_getD,hk2]
    rfl) hrel
   cases hrs:runS o p.2.1 stop (stop - n).toNat n (bringV P p.2.2 (stEntry p.2.1.toNat)) with
   | error m=>
    rw [hrs] at hrun
    exact hrun
   | ok P'=>
    rw [hrs] at hrun
    obtain⟨Q',l',hr1,hr2⟩:=hrun
    have hns:n+(stop - n).toNat=stop.toNat:=by omega
    have hsn:((stop.toNat:Nat):Int)=stop:=by omega
    rw [hns] at hr1 hr2
    have ih:=zh13 hlt L (A ++ [p]) stop.toNat P' Q' l' (by rw [List.append_assoc];exact hp) (by rw [List.append_assoc];exact hs) (fun q hq=>by have:=hLs q hq;omega) (by omega) (by rw [hsn];exact hr2)
    simp only
    cases hfp:faultP o L stop.toNat P' with
    | error m=>
     rw [hfp] at ih
     exact hr1.trans ih
    | ok r=>
     rw [hfp] at ih
     obtain⟨m,P2⟩:=r
     obtain⟨Q2,l2,h1,h2,h3⟩:=ih
     exact⟨Q2,l2,h1,hr1.trans h2,h3⟩
theorem zc10:∀ (L:List (ByteArray × Int × Int)) (P:List VPl),(L.foldl (fun P p=>P.set p.2.2.toNat ⟨true,false,stEntry p.2.1.toNat⟩) P).length=P.length
 | [],P=>rfl
 | p :: L,P=>by rw [List.foldl_cons,zc10 L];simp
theorem zo6:∀ (L:List (ByteArray × Int × Int)) (P:List VPl) (j:Nat),(∀ p ∈ L,p.2.2.toNat≠j)→(L.foldl (fun P p=>P.set p.2.2.toNat ⟨true,false,stEntry p.2.1.toNat⟩) P)[j]?=P[j]?
 | [],P,j,_=>rfl
 | p :: L,P,j,h=>by
  rw [List.foldl_cons,zo6 L _ j (fun q hq=>h q (List.mem_cons_of_mem _ hq)),List.getElem?_set_ne (h p List.mem_cons_self)]
theorem zt14:∀ (L:List (ByteArray × Int × Int)) (P:List VPl),(∀ p ∈ L,p.2.2.toNat<P.length)→(L.map (·.2.2.toNat)).Nodup→∀ p ∈ L,(L.foldl (fun P p=>P.set p.2.2.toNat ⟨true,false,stEntry p.2.1.toNat⟩) P)[p.2.2.toNat]?=some ⟨true,false,stEntry p.2.1.toNat⟩
 | [],P,_,_,p,hp=>by cases hp
 | q :: L,P,hl,hn,p,hp=>by
  rw [List.map_cons,List.nodup_cons] at hn
  rw [List.foldl_cons]
  rcases List.mem_cons.1 hp with rfl | hp
  ·rw [zo6 L _ _ (fun r hr e=>hn.1 (List.mem_map.2 ⟨r,hr,e⟩)),List.getElem?_set_self (hl p List.mem_cons_self)]
  ·exact zt14 L _ (fun r hr=>by rw [List.length_set];exact hl r (List.mem_cons_of_mem _ hr)) hn.2 p hp
def progV (o:Ob) (L:List (ByteArray × Int × Int)):Except Nat (List VSt):=
 match faultP o L 0 (List.replicate o.code.length plZero) with
 | .error m=>.error m
 | .ok (m,P)=>if m<o.code.length then .error m else .ok (P.map (·.s))
theorem progV_eq {o:Ob} {L:List (ByteArray × Int × Int)} (hp:L.Perm o.preds) (hs:L.Pairwise (fun p q=>p.2.2<q.2.2)) (hlt:∀ q ∈ o.preds,0≤q.2.2∧q.2.2<(o.code.length:Int)):progV o L=walkV o o.code.length 0 (startV o) []:=by
 have hn:(o.preds.map (·.2.2.toNat)).Nodup:=by
  have h1:(L.map (·.2.2.toNat)).Nodup:=by
   rw [List.nodup_iff_pairwise_ne,List.pairwise_map]
   refine hs.imp_of_mem ?_
   intro p q hpm hqm hpq
   have:=hlt p (hp.mem_iff.1 hpm)
   have:=hlt q (hp.mem_iff.1 hqm)
   omega
  exact(hp.map _).nodup_iff.1 h1
 have hrel:RelV o L ((0:Nat):Int) 0 (List.replicate o.code.length plZero) (startV o) []:=by
  refine⟨by simp,by unfold startV;rw [zc10];simp,fun j hj=>by omega,fun j _ hjl=>by simp [hjl],fun p hpm=>?_,fun j _ hjl hne=>?_,rfl,fun j hj=>by omega⟩
  ·unfold startV
   exact zt14 o.preds _ (fun q hq=>by have:=hlt q hq;simp;omega) hn p (hp.mem_iff.1 hpm)
  ·unfold startV
   rw [zo6 o.preds _ j (fun q hq=>hne q (hp.mem_iff.2 hq))]
   simp [hjl]
 have h:=zh13 hlt L [] 0 _ _ _ (by simpa using hp) (by simpa using hs) (fun q hq=>by have:=hlt q (hp.mem_iff.1 hq);omega) (Nat.zero_le _) hrel
 unfold progV
 cases hf:faultP o L 0 (List.replicate o.code.length plZero) with
 | error m=>
  rw [hf] at h
  exact h.symm
 | ok r=>
  obtain⟨m,P'⟩:=r
  rw [hf] at h
  obtain⟨Q',l',h1,h2,h3⟩:=h
  rw [Nat.sub_zero] at h2
  rw [h2]
  simp only
  by_cases hm:m<o.code.length
  ·rw [if_pos hm]
   have hz:Q'[m]?=some plZero:=h3.rest m (Int.le_refl _) hm (fun q hq=>by cases hq)
   have hw:o.code.length - m=(o.code.length - m - 1)+1:=by omega
   rw [hw,walkV]
   have hno:∀ ar stop,passV o ar stop m Q'=none:=by
    intro ar stop
    unfold passV
    simp only
    rw [List.getD_eq_getElem?_getD,hz,Option.getD_some,if_pos (.inr (.inl rfl))]
   rw [hno]
  ·rw [if_neg hm]
   obtain rfl:m=o.code.length:=by omega
   rw [Nat.sub_self,walkV]
   congr 1
   apply List.ext_getElem?
   intro j
   rw [List.getElem?_map]
   by_cases hj:j<o.code.length
   ·exact(h3.told j hj).symm
   ·rw [List.getElem?_eq_none (by rw [h3.lenP];omega),List.getElem?_eq_none (by rw [h3.len];omega)]
    rfl
end Go.Proofs.YtlmbiafloiompaaGreatDoor

namespace Go.Proofs.YtlmbiafloiompaaGreatDoor
open Go Go.RowKit
set_option linter.unusedVariables false
set_option linter.unusedSimpArgs false
set_option maxRecDepth 4000
/-! Cells of a list of places. -/
def plC (p:VPl):List Value:=(stA p.s).toList ++ [.bool p.here,.bool p.bad]
def plA (P:List VPl):Array Value:=(P.flatMap plC).toArray
def PlOk (P:List VPl):Prop:=∀ p ∈ P,StOk p.s
theorem zl9 {p:VPl} (h:StOk p.s):(plC p).length=23:=by
 have:=zg h
 simp [plC,this]
theorem zm2 {α:Type} (f:α→List Value) (m:Nat):∀ (l:List α) (hf:∀ a ∈ l,(f a).length=m) (k:Nat) (a:α),l[k]?=some a→∀ j,j<m→(l.flatMap f)[k * m+j]?=(f a)[j]?
 | [],_,_,_,h,_,_=>by simp at h
 | x :: l,hf,0,a,h,j,hj=>by
  obtain rfl:x=a:=by simpa using h
  rw [List.flatMap_cons,Nat.zero_mul,Nat.zero_add,List.getElem?_append_left (by rw [hf x List.mem_cons_self];exact hj)]
 | x :: l,hf,k+1,a,h,j,hj=>by
  have h':l[k]?=some a:=by simpa using h
  have hx:=hf x List.mem_cons_self
  rw [List.flatMap_cons,List.getElem?_append_right (by rw [hx,Nat.succ_mul];omega),hx,show(k+1) * m+j - m=k * m+j by rw [Nat.succ_mul];omega]
  exact zm2 f m l (fun b hb=>hf b (List.mem_cons_of_mem _ hb)) k a h' j hj
theorem zh2 {α:Type} (f:α→List Value) (m:Nat):∀ (l:List α) (hf:∀ a ∈ l,(f a).length=m),(l.flatMap f).length=l.length * m
 | [],_=>by simp
 | x :: l,hf=>by
  rw [List.flatMap_cons,List.length_append,hf x List.mem_cons_self,zh2 f m l (fun b hb=>hf b (List.mem_cons_of_mem _ hb)),List.length_cons,Nat.succ_mul]
  omega
theorem zp3 {P:List VPl} (h:PlOk P):(plA P).size=P.length * 23:=by
 unfold plA
 rw [List.size_toArray]
 exact zh2 plC 23 P (fun p hp=>zl9 (h p hp))
theorem plA_at {P:List VPl} (h:PlOk P) {n:Nat} (hn:n<P.length) {j:Nat} (hj:j<23):(plA P)[n * 23+j]?=(plC P[n])[j]?:=by
 unfold plA
 rw [List.getElem?_toArray]
 exact zm2 plC 23 P (fun p hp=>zl9 (h p hp)) n P[n] (List.getElem?_eq_getElem hn) j hj
theorem plC_s {p:VPl} (h:StOk p.s) {j:Nat} (hj:j<21):(plC p)[j]?=(stA p.s)[j]?:=by
 have:=zg h
 unfold plC
 rw [List.getElem?_append_left (by simp [this,hj]),Array.getElem?_toList]
theorem zq3 {p:VPl} (h:StOk p.s):(plC p)[21]?=some (.bool p.here):=by
 have:=zg h
 unfold plC
 rw [List.getElem?_append_right (by simp [this])]
 simp [this]
theorem zm5 {p:VPl} (h:StOk p.s):(plC p)[22]?=some (.bool p.bad):=by
 have:=zg h
 unfold plC
 rw [List.getElem?_append_right (by simp [this])]
 simp [this]
theorem zv15 {P:List VPl} (h:PlOk P) {A:Array Value} (hs:A.size=P.length * 23) (ha:∀ k (hk:k<P.length) j,j<23→A[k * 23+j]?=(plC P[k])[j]?):A=plA P:=by
 apply Array.ext_getElem?
 intro m
 by_cases hm:m<P.length * 23
 ·have hk:m / 23<P.length:=by omega
  have e:m=m / 23 * 23+m % 23:=by omega
  rw [e,ha (m / 23) hk (m % 23) (Nat.mod_lt _ (by decide)),plA_at h hk (Nat.mod_lt _ (by decide))]
 ·rw [Array.getElem?_eq_none (by omega),Array.getElem?_eq_none (by rw [zp3 h];omega)]
def putL (C:Array Value):Nat→List Value→Array Value
 | _,[]=>C
 | o,v :: r=>putL (C.setIfInBounds o v) (o+1) r
theorem zp9:∀ (vs:List Value) (C:Array Value) (o:Nat),(putL C o vs).size=C.size
 | [],C,o=>rfl
 | v :: r,C,o=>by rw [putL,zp9 r];simp
theorem zh7:∀ (vs:List Value) (C:Array Value) (o j:Nat),o+vs.length≤C.size→(putL C o vs)[j]?=if o≤j∧j<o+vs.length then vs[j - o]? else C[j]?
 | [],C,o,j,_=>by rw [if_neg (by rw [List.length_nil];omega)];rfl
 | v :: r,C,o,j,h=>by
  rw [List.length_cons] at h
  rw [putL,zh7 r _ (o+1) j (by simp;omega),List.length_cons]
  by_cases e:j=o
  ·subst e
   rw [if_neg (by omega),if_pos (by omega),Nat.sub_self,Array.getElem?_setIfInBounds_self_of_lt (by omega)]
   rfl
  ·by_cases h1:o+1≤j∧j<o+1+r.length
   ·rw [if_pos h1,if_pos (by omega),show j - o=(j - (o+1))+1 by omega,List.getElem?_cons_succ]
   ·rw [if_neg h1,if_neg (by omega),Array.getElem?_setIfInBounds_ne (by omega)]
theorem Box.setCells {t:TypeId} {g:Nat}:∀ (vs:List Value) (w:World) (C:Array Value) (o:Nat),Box w g t C→Box (w.setCells g o vs) g t (putL C o vs)
 | [],_,_,_,h=>h
 | v :: r,w,C,o,h=>Box.setCells r _ _ (o+1) (h.set_ o v)
theorem Fr.setCells {S:Nat→Prop} {g:Nat}:∀ (vs:List Value) (w w':World) (o:Nat),Fr S w w'→(S g ∨ w.heap.size≤g)→Fr S w (w'.setCells g o vs)
 | [],_,_,_,h,_=>h
 | v :: r,w,w',o,h,hg=>Fr.setCells r w _ (o+1) (h.setCell (p:=⟨g,o,none⟩) hg v) hg
theorem Box.setCells_far {t:TypeId} {g k:Nat} (hk:g≠k):∀ (vs:List Value) (w:World) (C:Array Value) (o:Nat),Box w g t C→Box (w.setCells k o vs) g t C
 | [],_,_,_,h=>h
 | v :: r,w,C,o,h=>Box.setCells_far hk r _ C (o+1) (h.far (p:=⟨k,o,none⟩) hk v)
theorem PlOk.set {P:List VPl} (h:PlOk P) {n:Nat} {q:VPl} (hq:StOk q.s):PlOk (P.set n q):=fun p hp=>by
 rcases List.mem_or_eq_of_mem_set hp with hp | rfl
 ·exact h p hp
 ·exact hq
theorem zd14 {P:List VPl} (h:PlOk P) {n:Nat} (hn:n<P.length) {s:VSt} (hs:StOk s):putL (plA P) (n * 23) (stA s).toList=plA (P.set n { P[n] with s:=s }):=by
 have h1:=zg hs
 have hq:StOk ({ P[n] with s:=s }:VPl).s:=hs
 have hl:(stA s).toList.length=21:=by rw [Array.length_toList,h1]
 have hp:=h P[n] (List.getElem_mem hn)
 refine zv15 (h.set hq) (by rw [zp9,zp3 h,List.length_set]) fun k hk j hj=>?_
 rw [List.length_set] at hk
 rw [zh7 _ _ _ _ (by rw [zp3 h,hl];omega),hl]
 by_cases e:k=n
 ·subst e
  rw [List.getElem_set_self]
  by_cases hj2:j<21
  ·rw [if_pos (by omega),show k * 23+j - k * 23=j by omega,plC_s hq hj2,Array.getElem?_toList]
  ·rw [if_neg (by omega),plA_at h hn hj]
   have hj3:j=21 ∨ j=22:=by omega
   rcases hj3 with rfl | rfl
   ·rw [zq3 hp,zq3 hq]
   ·rw [zm5 hp,zm5 hq]
 ·rw [if_neg (by omega),plA_at h hk hj,List.getElem_set_ne (fun x=>e x.symm)]
theorem plA_here {P:List VPl} (h:PlOk P) {n:Nat} (hn:n<P.length) (b:Bool):(plA P).setIfInBounds (n * 23+21) (.bool b)=plA (P.set n { P[n] with here:=b }):=by
 have hp:=h P[n] (List.getElem_mem hn)
 have hq:StOk ({ P[n] with here:=b }:VPl).s:=hp
 refine zv15 (h.set hq) (by rw [Array.size_setIfInBounds,zp3 h,List.length_set]) fun k hk j hj=>?_
 rw [List.length_set] at hk
 by_cases e:k=n
 ·subst e
  rw [List.getElem_set_self]
  by_cases hj2:j=21
  ·subst hj2
   rw [Array.getElem?_setIfInBounds_self_of_lt (by rw [zp3 h];omega),zq3 hq]
  ·rw [Array.getElem?_setIfInBounds_ne (by omega),plA_at h hn hj]
   by_cases hj3:j=22
   ·subst hj3
    rw [zm5 hp,zm5 hq]
   ·rw [plC_s hp (by omega),plC_s hq (by omega)]
 ·rw [Array.getElem?_setIfInBounds_ne (by omega),plA_at h hk hj,List.getElem_set_ne (fun x=>e x.symm)]
theorem plA_bad {P:List VPl} (h:PlOk P) {n:Nat} (hn:n<P.length) (b:Bool):(plA P).setIfInBounds (n * 23+22) (.bool b)=plA (P.set n { P[n] with bad:=b }):=by
 have hp:=h P[n] (List.getElem_mem hn)
 have hq:StOk ({ P[n] with bad:=b }:VPl).s:=hp
 refine zv15 (h.set hq) (by rw [Array.size_setIfInBounds,zp3 h,List.length_set]) fun k hk j hj=>?_
 rw [List.length_set] at hk
 by_cases e:k=n
 ·subst e
  rw [List.getElem_set_self]
  by_cases hj2:j=22
  ·subst hj2
   rw [Array.getElem?_setIfInBounds_self_of_lt (by rw [zp3 h];omega),zm5 hq]
  ·rw [Array.getElem?_setIfInBounds_ne (by omega),plA_at h hn hj]
   by_cases hj3:j=21
   ·subst hj3
    rw [zq3 hp,zq3 hq]
   ·rw [plC_s hp (by omega),plC_s hq (by omega)]
 ·rw [Array.getElem?_setIfInBounds_ne (by omega),plA_at h hk hj,List.getElem_set_ne (fun x=>e x.symm)]
theorem zp4 {w:World} {g:Nat} {t:TypeId} {P:List VPl} (hb:Box w g t (plA P)) (h:PlOk P) {n:Nat} (hn:n<P.length):w.rangeAt g (n * 23) (stA P[n].s).toList:=by
 intro j v hv
 have hp:=h P[n] (List.getElem_mem hn)
 have hj:j<21:=by
  have:=(List.getElem?_eq_some_iff.1 hv).1
  rw [Array.length_toList,zg hp] at this
  exact this
 rw [hb.cell,plA_at h hn (by omega),plC_s hp hj,← Array.getElem?_toList]
 exact hv
theorem ze14 {w:World} {g:Nat} {t:TypeId} {P:List VPl} (hb:Box w g t (plA P)) (h:PlOk P) {n:Nat} (hn:n<P.length):w.rangeAt g (n * 23) (plC P[n]):=by
 intro j v hv
 have hp:=h P[n] (List.getElem_mem hn)
 have hj:j<23:=by
  have:=(List.getElem?_eq_some_iff.1 hv).1
  rw [zl9 hp] at this
  exact this
 rw [hb.cell,plA_at h hn hj]
 exact hv
theorem plA_there {w:World} {g:Nat} {t:TypeId} {P:List VPl} (hb:Box w g t (plA P)) (h:PlOk P) {n:Nat} (hn:n<P.length):w.there g (n * 23) 21:=by
 intro j hj
 have hp:=h P[n] (List.getElem_mem hn)
 refine⟨?_,hb.frozen _⟩
 rw [hb.cell,plA_at h hn (by omega),plC_s hp hj]
 have:=zg hp
 rw [Array.getElem?_eq_getElem (by omega)]
 rfl
/-! The walk in memory: its own box,the places' row. -/
structure WkAt (w:World) (gw g:Nat) (va vf vp vc:Value) (P:List VPl):Prop where
 wk:Box w gw 124 #[va,vf,vp,vc,.slice (some ⟨g,0,none⟩) P.length P.length]
 pl:Box w g 133 (plA P)
theorem WkAt.ne {w:World} {gw g:Nat} {va vf vp vc:Value} {P:List VPl} (h:WkAt w gw g va vf vp vc P):gw≠g:=Box.ne_ h.wk h.pl (by decide)
theorem WkAt.fr {w w':World} {gw g:Nat} {va vf vp vc:Value} {P:List VPl} (h:WkAt w gw g va vf vp vc P) (hb:Below w.heap.size w w'):WkAt w' gw g va vf vp vc P:=⟨h.wk.below hb h.wk.lt,h.pl.below hb h.pl.lt⟩
theorem WkAt.upd {w w':World} {gw g:Nat} {va vf vp vc:Value} {P P':List VPl} (h:WkAt w gw g va vf vp vc P) (hf:Fr (fun k=>k=g) w w') (hp:Box w' g 133 (plA P')) (hl:P'.length=P.length):WkAt w' gw g va vf vp vc P':=
 ⟨by rw [hl];exact h.wk.fr hf h.ne,hp⟩
/-! What is known stays in its bounds. -/
structure StW (s:VSt):Prop where
 ok:StOk s
 l0:0≤s.left
 l1:s.left≤8
def PlW (P:List VPl):Prop:=∀ p ∈ P,StW p.s
theorem PlW.ok {P:List VPl} (h:PlW P):PlOk P:=fun p hp=>(h p hp).ok
theorem StW.entry (n:Nat) (hn:n≤8):StW (stEntry n):=⟨StOk.entry n hn,Int.le_refl _,by show(0:Int)≤8;decide⟩
theorem StW.other (n:Nat) (hn:n≤8):StW (stOther n):=⟨StOk.other n hn,Int.le_refl _,by show(0:Int)≤8;decide⟩
theorem StW.zero:StW stZero:=⟨⟨rfl,by decide⟩,Int.le_refl _,by decide⟩
theorem StOk.join {s t:VSt} (hs:StOk s) (ht:StOk t):StOk (joinV s t):=⟨by show(List.zipWith mixY s.y t.y).length=16;rw [List.length_zipWith,hs.y,ht.y];rfl,Nat.lt_of_le_of_lt Nat.and_le_left hs.x⟩
theorem StW.join {s t:VSt} (hs:StW s) (ht:StW t):StW (joinV s t):=⟨hs.ok.join ht.ok,hs.l0,hs.l1⟩
theorem StW.come {p:VPl} {s:VSt} (hp:StW p.s) (hs:StW s):StW (comeV p s).s:=by
 unfold comeV
 split
 ·exact hs
 ·split
  ·exact hp
  ·exact hp.join hs
theorem PlW.bring {P:List VPl} (h:PlW P) (n:Int) {s:VSt} (hs:StW s):PlW (bringV P n s):=by
 intro p hp
 obtain⟨j,hj,e⟩:=List.getElem_of_mem hp
 have h1:(bringV P n s)[j]?=some p:=by rw [List.getElem?_eq_getElem hj,e]
 rw [zx2] at h1
 split at h1
 ·cases hq:P[j]? with
  | none=>rw [hq] at h1;cases h1
  | some q=>
   rw [hq] at h1
   injection h1 with h1
   rw [← h1]
   exact(h q (List.mem_of_getElem? hq)).come hs
 ·exact h p (List.mem_of_getElem? h1)
theorem PlW.brings {P:List VPl} (f:Int→VSt):∀ (l:List Int) (P:List VPl),PlW P→(∀ t ∈ l,StW (f t))→PlW (l.foldl (fun Q t=>bringV Q t (f t)) P)
 | [],_,h,_=>h
 | t :: l,P,h,hf=>by
  rw [List.foldl_cons]
  exact PlW.brings (P:=P) f l _ (h.bring t (hf t List.mem_cons_self)) (fun u hu=>hf u (List.mem_cons_of_mem _ hu))
theorem PlW.zeros (n:Nat):PlW (List.replicate n plZero):=fun p hp=>by
 rw [List.eq_of_mem_replicate hp]
 exact StW.zero
/-! An instruction of an object that may be. -/
structure InsK (o:Ob) (i:Ins):Prop where
 op:0≤i.1∧i.1≤26
 rg:i.1=1 ∨ i.1=2 ∨ i.1=10 ∨ i.1=11 ∨ i.1=6 ∨ i.1=7→0≤i.2.1∧i.2.1<32
 xb:i.1=1 ∨ i.1=2 ∨ i.1=10 ∨ i.1=11 ∨ i.1=3 ∨ i.1=12 ∨ i.1=4 ∨ i.1=13→0≤i.2.2.1∧i.2.2.1<16
 xa:i.1=5 ∨ i.1=14→0≤i.2.1∧i.2.1<16
 fa:i.1=4 ∨ i.1=13→0≤i.2.1∧i.2.1<o.funs.length
 va:i.1=9→1≤i.2.1∧i.2.1≤8
 ea:i.1=15→0≤i.2.1∧i.2.1≤16
 pa:i.1=17 ∨ i.1=18→0≤i.2.1∧i.2.1<o.preds.length
 ya:i.1=24 ∨ i.1=25→0≤i.2.1∧i.2.1<16
 la:∀ t ∈ labsV i,0≤t∧t<o.code.length
theorem insErr_k {a f p c:Nat} {i:Ins} (h:insErr a f p c i=0):(0≤i.1∧i.1≤26)∧rightB i.1 (argOf i)=true∧∀ k,k<(opsOf i.1).length→thereB a f p c ((opsOf i.1).getD k 0) ((argOf i).getD k 0)=true:=by
 unfold insErr at h
 split at h
 ·exact absurd h (by decide)
 ·rename_i h1
  split at h
  ·exact absurd h (by decide)
  ·rename_i h2
   split at h
   ·rename_i h3
    refine⟨by omega,?_,fun k hk=>?_⟩
    ·cases hx:rightB i.1 (argOf i) with
     | true=>rfl
     | false=>exact absurd hx h2
    ·exact List.all_eq_true.1 h3 k (List.mem_range.2 hk)
   ·exact absurd h (by decide)
theorem right_k {op:Int} {a:List Int} (h:rightB op a=true) (k:Nat) (hk:k<4):mayB op ((opsOf op).getD k 0) (a.getD k 0)=true:=by
 unfold rightB at h
 rw [Bool.and_eq_true] at h
 exact List.all_eq_true.1 h.2 k (List.mem_range.2 hk)
theorem InsK.of {o:Ob} {i:Ins} (h:insErr o.atoms.length o.funs.length o.preds.length o.code.length i=0):InsK o i:=by
 obtain⟨op,a,b,c,d⟩:=i
 obtain⟨h1,h2,h3⟩:=insErr_k h
 simp only [argOf] at h1 h2 h3
 have r0:=right_k h2 0 (by decide)
 have r1:=right_k h2 1 (by decide)
 simp only [List.getD_cons_zero,List.getD_cons_succ] at r0 r1
 refine⟨h1,?_,?_,?_,?_,?_,?_,?_,?_,?_⟩
 ·intro e
  simp only at e ⊢
  rcases e with rfl | rfl | rfl | rfl | rfl | rfl <;> simp [opsOf,mayB,lowOf,highOf] at r0 <;> omega
 ·intro e
  simp only at e ⊢
  rcases e with rfl | rfl | rfl | rfl | rfl | rfl | rfl | rfl <;> simp [opsOf,mayB,lowOf,highOf] at r1 <;> omega
 ·intro e
  simp only at e ⊢
  rcases e with rfl | rfl <;> simp [opsOf,mayB,lowOf,highOf] at r0 <;> omega
 ·intro e
  simp only at e ⊢
  rcases e with rfl | rfl
  ·have:=h3 0 (by decide)
   simp [opsOf,thereB] at this
   omega
  ·have:=h3 0 (by decide)
   simp [opsOf,thereB] at this
   omega
 ·intro e
  simp only at e ⊢
  subst e
  simp [opsOf,mayB,lowOf,highOf] at r0
  omega
 ·intro e
  simp only at e ⊢
  subst e
  simp [opsOf,mayB,lowOf,highOf] at r0
  omega
 ·intro e
  simp only at e ⊢
  rcases e with rfl | rfl
  ·have:=h3 0 (by decide)
   simp [opsOf,thereB] at this
   omega
  ·have:=h3 0 (by decide)
   simp [opsOf,thereB] at this
   omega
 ·intro e
  simp only at e ⊢
  rcases e with rfl | rfl <;> simp [opsOf,mayB,lowOf,highOf] at r0 <;> omega
 ·intro t ht
  unfold labsV at ht
  rw [List.mem_map] at ht
  obtain⟨k,hk,rfl⟩:=ht
  rw [List.mem_filter,List.mem_range] at hk
  obtain⟨hk1,hk2⟩:=hk
  rw [Bool.and_eq_true,decide_eq_true_eq,decide_eq_true_eq] at hk2
  have h4:=h3 k hk1
  simp only [argOf] at hk2 ⊢
  rw [hk2.1] at h4
  simp only [thereB,show ¬ ((8:Int)=3) by decide,show ¬ ((8:Int)=4) by decide,show ¬ ((8:Int)=7) by decide,if_false,if_true,decide_eq_true_eq] at h4
  rcases h4 with h4 | h4
  ·exact absurd h4 hk2.2
  ·exact h4
structure ObK (o:Ob):Prop where
 ins:∀ i ∈ o.code,InsK o i
 fun_:∀ f ∈ o.funs,1≤f.2∧f.2≤8
 pred:∀ p ∈ o.preds,0≤p.2.1∧p.2.1≤8
 lf:o.funs.length≤256
 lp:o.preds.length≤64
 lc:o.code.length≤1024
theorem zo16 {a f p c:Nat}:∀ {l:List Ins},codeErr a f p c l=0→∀ i ∈ l,insErr a f p c i=0
 | [],_,i,hi=>by cases hi
 | x :: l,h,i,hi=>by
  rw [codeErr] at h
  split at h
  ·rename_i h0
   rcases List.mem_cons.1 hi with rfl | hi
   ·exact h0
   ·exact zo16 h i hi
  ·rename_i h0
   exact absurd h h0
theorem ObK.of {o:Ob} (h:checkOf o=0):ObK o:=by
 unfold checkOf at h
 split at h
 ·exact absurd h (by decide)
 ·rename_i h1
  split at h
  ·exact absurd h (by decide)
  ·rename_i h2
   split at h
   ·exact absurd h (by decide)
   ·split at h
    ·exact absurd h (by decide)
    ·have hb:bigB o.atoms.length o.funs.length o.preds.length o.code.length=false:=by
      cases hx:bigB o.atoms.length o.funs.length o.preds.length o.code.length with
      | false=>rfl
      | true=>exact absurd hx h1
     unfold bigB at hb
     rw [decide_eq_false_iff_not] at hb
     have hn:namesOk o=true:=by
      cases hx:namesOk o with
      | true=>rfl
      | false=>exact absurd hx h2
     unfold namesOk at hn
     rw [Bool.and_eq_true,Bool.and_eq_true] at hn
     refine⟨fun i hi=>InsK.of (zo16 h i hi),fun f hf=>?_,fun p hp=>?_,by omega,by omega,by omega⟩
     ·have:=List.all_eq_true.1 hn.1.2 f hf
      unfold funOk at this
      simp only [Bool.and_eq_true,decide_eq_true_eq] at this
      omega
     ·have:=List.all_eq_true.1 hn.2 (called p) (List.mem_map.2 ⟨p,hp,rfl⟩)
      unfold funOk called at this
      simp only [Bool.and_eq_true,decide_eq_true_eq] at this
      omega
theorem StOk.reg {s:VSt} (h:StOk s) {r:Int} (h0:0≤r) (h1:r<16):StOk (regV s r):=⟨h.y,or_lt h.x (by omega)⟩
theorem StOk.bec {s:VSt} (h:StOk s) {r:Int} (h0:0≤r) (h1:r<32):StOk (becV s r):=by
 unfold becV
 split
 ·exact h.reg h0 (by omega)
 ·exact⟨by simpa using h.y,h.x⟩
theorem zu4 (s:VSt) (r:Int):(becV s r).left=s.left:=by unfold becV regV;split <;> rfl
theorem zb3 {o:Ob} (h:ObK o) (k:Int):0≤arityF o k∧arityF o k≤8:=by
 unfold arityF
 rw [List.getD_eq_getElem?_getD]
 cases hx:o.funs[k.toNat]? with
 | none=>simp
 | some f=>
  have:=h.fun_ f (List.mem_of_getElem? hx)
  simp only [Option.getD_some]
  omega
theorem zk2 {o:Ob} (h:ObK o) (k:Int):0≤arityP o k∧arityP o k≤8:=by
 unfold arityP
 rw [List.getD_eq_getElem?_getD]
 cases hx:o.preds[k.toNat]? with
 | none=>simp
 | some f=>
  have:=h.pred f (List.mem_of_getElem? hx)
  simp only [Option.getD_some]
  omega
theorem zu10 {o:Ob} {ar:Int} {i:Ins} {s:VSt} (h:asksV o ar i s=true):(i.1=6 ∨ i.1=7 ∨ i.1=8→s.left≠0)∧(i.1=9→i.2.1≤s.left):=by
 unfold asksV at h
 by_cases ha:s.alt≠(decide (i.1=21) || decide (i.1=22))
 ·rw [if_pos ha] at h
  cases h
 ·rw [if_neg ha] at h
  constructor
  ·intro e
   have hp:partV i.1=true:=by unfold partV;rcases e with e | e | e <;> rw [e] <;> rfl
   rw [if_pos hp] at h
   unfold asksPart at h
   rw [if_neg (by omega)] at h
   intro h0
   rw [if_pos h0] at h
   cases h
  ·intro e
   have hp:partV i.1=true:=by unfold partV;rw [e];rfl
   rw [if_pos hp] at h
   unfold asksPart at h
   rw [if_pos e] at h
   simpa using h
theorem StW.makes {o:Ob} {ar:Int} {i:Ins} {s:VSt} (ho:ObK o) (hi:InsK o i) (h:asksV o ar i s=true) (hs:StW s):StW (makesV o i s):=by
 obtain⟨h1,h2⟩:=zu10 h
 have hl0:=hs.l0
 have hl1:=hs.l1
 have ha:=zb3 ho i.2.1
 unfold makesV
 by_cases e1:i.1=1
 ·rw [if_pos e1]
  have hr:=hi.rg (by omega)
  exact⟨hs.ok.bec hr.1 hr.2,by rw [zu4];exact hl0,by rw [zu4];exact hl1⟩
 rw [if_neg e1]
 by_cases e2:i.1=4
 ·rw [if_pos e2]
  exact⟨⟨hs.ok.y,hs.ok.x⟩,ha.1,ha.2⟩
 rw [if_neg e2]
 by_cases e3:i.1=5
 ·rw [if_pos e3]
  exact⟨⟨hs.ok.y,hs.ok.x⟩,by show(0:Int)≤2;decide,by show(2:Int)≤8;decide⟩
 rw [if_neg e3]
 by_cases e4:i.1=6
 ·rw [if_pos e4]
  have hr:=hi.rg (by omega)
  have:=h1 (.inl e4)
  have hb:=hs.ok.bec hr.1 hr.2
  exact⟨⟨hb.y,hb.x⟩,by show 0≤s.left - 1;omega,by show s.left - 1≤8;omega⟩
 rw [if_neg e4]
 by_cases e5:i.1=7 ∨ i.1=8
 ·rw [if_pos e5]
  have:=h1 (.inr e5)
  exact⟨⟨hs.ok.y,hs.ok.x⟩,by show 0≤s.left - 1;omega,by show s.left - 1≤8;omega⟩
 rw [if_neg e5]
 by_cases e6:i.1=9
 ·rw [if_pos e6]
  have:=h2 e6
  have:=hi.va e6
  exact⟨⟨hs.ok.y,hs.ok.x⟩,by show 0≤s.left - i.2.1;omega,by show s.left - i.2.1≤8;omega⟩
 rw [if_neg e6]
 by_cases e7:i.1=10
 ·rw [if_pos e7]
  have hr:=hi.rg (by omega)
  have hx:=hi.xb (by omega)
  exact⟨(hs.ok.bec hr.1 hr.2).reg hx.1 hx.2,by show 0≤(becV s i.2.1).left;rw [zu4];exact hl0,by show(becV s i.2.1).left≤8;rw [zu4];exact hl1⟩
 rw [if_neg e7]
 by_cases e8:i.1=11 ∨ i.1=12
 ·rw [if_pos e8]
  have hx:=hi.xb (by omega)
  exact⟨hs.ok.reg hx.1 hx.2,hl0,hl1⟩
 rw [if_neg e8]
 by_cases e9:i.1=13
 ·rw [if_pos e9]
  have hx:=hi.xb (by omega)
  have hb:=hs.ok.reg hx.1 hx.2
  exact⟨⟨hb.y,hb.x⟩,ha.1,ha.2⟩
 rw [if_neg e9]
 by_cases e10:i.1=14
 ·rw [if_pos e10]
  have hx:=hi.xa (by omega)
  have hb:=hs.ok.reg hx.1 hx.2
  exact⟨⟨hb.y,hb.x⟩,by show(0:Int)≤2;decide,by show(2:Int)≤8;decide⟩
 rw [if_neg e10]
 by_cases e11:i.1=15
 ·rw [if_pos e11]
  exact⟨⟨hs.ok.y,hs.ok.x⟩,hl0,hl1⟩
 rw [if_neg e11]
 by_cases e12:i.1=16
 ·rw [if_pos e12]
  exact⟨⟨rfl,hs.ok.x⟩,hl0,hl1⟩
 rw [if_neg e12]
 by_cases e13:i.1=17
 ·rw [if_pos e13]
  exact⟨⟨hs.ok.y,by show(0:Nat)<2 ^ 16;decide⟩,hl0,hl1⟩
 rw [if_neg e13]
 by_cases e14:i.1=21 ∨ i.1=22
 ·rw [if_pos e14]
  exact⟨⟨hs.ok.y,hs.ok.x⟩,hl0,hl1⟩
 rw [if_neg e14]
 by_cases e15:i.1=24
 ·rw [if_pos e15]
  exact⟨⟨by show(s.y.set _ _).length=16;rw [List.length_set];exact hs.ok.y,hs.ok.x⟩,hl0,hl1⟩
 rw [if_neg e15]
 exact hs
end Go.Proofs.YtlmbiafloiompaaGreatDoor

namespace Go.Proofs.YtlmbiafloiompaaGreatDoor
open Go
set_option linter.unusedVariables false
set_option linter.unusedSimpArgs false
/-! Labels. -/
def labK (i:Ins) (k:Nat):List Int:=((List.range k).filter fun k=>decide ((opsOf i.1).getD k 0=8) && decide ((argOf i).getD k 0≠65535)).map fun k=>(argOf i).getD k 0
theorem labK_zero (i:Ins):labK i 0=[]:=rfl
theorem zf8 (i:Ins):labK i (opsOf i.1).length=labsV i:=rfl
theorem ze12 {i:Ins} {k:Nat} (h1:(opsOf i.1).getD k 0=8) (h2:(argOf i).getD k 0≠65535):labK i (k+1)=labK i k ++ [(argOf i).getD k 0]:=by
 unfold labK
 rw [List.range_succ,List.filter_append,List.map_append]
 congr 1
 rw [List.filter_cons_of_pos (by rw [decide_eq_true h1,decide_eq_true h2];rfl)]
 rfl
theorem zk15 {i:Ins} {k:Nat} (h:¬ ((opsOf i.1).getD k 0=8∧(argOf i).getD k 0≠65535)):labK i (k+1)=labK i k:=by
 unfold labK
 rw [List.range_succ,List.filter_append,List.map_append,List.filter_cons_of_neg (by simpa using fun a b=>h ⟨a,b⟩)]
 simp
theorem zg8 (i:Ins) (k:Nat):(labK i k).length≤k:=by
 unfold labK
 rw [List.length_map]
 exact Nat.le_trans (List.length_filter_le _ _) (by rw [List.length_range];exact Nat.le_refl _)
theorem zg9 (op:Int):(opsOf op).length≤4:=by
 unfold opsOf
 repeat' split
 all_goals decide
/-! Spans. -/
def spC (p:Int × Int × Int):List Value:=[.int .i64 p.1,.int .i64 p.2.1,.int .i64 p.2.2]
def spZ (p:ByteArray × Int × Int):Int × Int × Int:=(p.2.1,p.2.2,0)
def spansOf (n:Nat):List (ByteArray × Int × Int)→List (Int × Int × Int)
 | []=>[]
 | p :: L=>(p.2.1,p.2.2,nextEnt n L) :: spansOf n L
theorem zy9 (n:Nat):∀ L,(spansOf n L).length=L.length
 | []=>rfl
 | p :: L=>by simp [spansOf,zy9 n L]
theorem zs12 (n:Nat):∀ (L:List (ByteArray × Int × Int)) (k:Nat) (h:k<L.length),(spansOf n L)[k]?=some (L[k].2.1,L[k].2.2,nextEnt n (L.drop (k+1)))
 | [],k,h=>absurd h (Nat.not_lt_zero _)
 | p :: L,0,h=>rfl
 | p :: L,k+1,h=>by
  have:=zs12 n L k (by simpa using h)
  simpa [spansOf] using this
theorem zc14 {α β:Type} [DecidableEq α] (f:α→β):∀ (l':List β) (l:List α),l'.Perm (l.map f)→∃ L:List α,L.Perm l∧L.map f=l'
 | [],l,h=>by
  have h1:=h.symm.eq_nil
  rw [List.map_eq_nil_iff] at h1
  exact⟨[],by rw [h1],rfl⟩
 | x :: xs,l,h=>by
  have hx:x ∈ l.map f:=h.mem_iff.1 List.mem_cons_self
  obtain⟨a,ha,e⟩:=List.mem_map.1 hx
  have h1:=List.perm_cons_erase ha
  have h2:=(h.trans (h1.map f))
  rw [List.map_cons,e] at h2
  obtain⟨L,hL,hm⟩:=zc14 f xs (l.erase a) h2.cons_inv
  exact⟨a :: L,(hL.cons a).trans h1.symm,by rw [List.map_cons,hm,e]⟩
/-! The program's way,place by place. -/
def stepF (o:Ob) (ar stop:Int) (L:List (ByteArray × Int × Int)) (n:Nat) (P:List VPl):Except Nat (Nat × List VPl):=
 match runS o ar stop (stop - n).toNat n P with
 | .error m=>.error m
 | .ok Q=>faultP o L stop.toNat Q
theorem stepF_end {o:Ob} {ar stop:Int} {L:List (ByteArray × Int × Int)} {n:Nat} {P:List VPl} (h:(n:Int)=stop):stepF o ar stop L n P=faultP o L n P:=by
 subst h
 unfold stepF
 rw [show((n:Int) - (n:Int)).toNat=0 by omega,runS,Int.toNat_natCast]
theorem stepF_bad {o:Ob} {ar stop:Int} {L:List (ByteArray × Int × Int)} {n:Nat} {P:List VPl} (h:(n:Int)<stop) (hp:passV o ar stop n P=none):stepF o ar stop L n P=.error n:=by
 unfold stepF
 rw [show(stop - (n:Int)).toNat=(stop - ((n:Int)+1)).toNat+1 by omega,runS,hp]
theorem stepF_go {o:Ob} {ar stop:Int} {L:List (ByteArray × Int × Int)} {n:Nat} {P Q:List VPl} (h:(n:Int)<stop) (hp:passV o ar stop n P=some Q):stepF o ar stop L n P=stepF o ar stop L (n+1) Q:=by
 unfold stepF
 rw [show(stop - (n:Int)).toNat=(stop - ((n:Int)+1)).toNat+1 by omega,runS,hp,show(((n+1:Nat):Int))=(n:Int)+1 by omega]
theorem zh18 {o:Ob} {p:ByteArray × Int × Int} {L:List (ByteArray × Int × Int)} {n:Nat} {P:List VPl} (h:(n:Int)<p.2.2):faultP o (p :: L) n P=.error n:=by rw [faultP,if_pos h]
theorem faultP_go {o:Ob} {p:ByteArray × Int × Int} {L:List (ByteArray × Int × Int)} {n:Nat} {P:List VPl} (h:¬ (n:Int)<p.2.2):faultP o (p :: L) n P=stepF o p.2.1 (nextEnt o.code.length L) L n (bringV P p.2.2 (stEntry p.2.1.toNat)):=by rw [faultP,if_neg h];rfl
theorem pass_len {o:Ob} {ar stop:Int} {n:Nat} {P Q:List VPl} (h:passV o ar stop n P=some Q):Q.length=P.length:=by
 unfold passV at h
 simp only at h
 split at h
 ·cases h
 ·injection h with h
  rw [← h]
  have all:∀ (l:List Int) (f:Int→VSt) (R:List VPl),(l.foldl (fun Q t=>bringV Q t (f t)) R).length=R.length:=by
   intro l f
   induction l with
   | nil=>intro R;rfl
   | cons t l ih=>intro R;rw [List.foldl_cons,ih,zc2]
  rw [all _ (fun _=>if (o.code.getD n (0,0,0,0,0)).1=26 then makesV o (o.code.getD n (0,0,0,0,0)) (P.getD n plZero).s else stOther ar.toNat)]
  split
  ·rw [zc2]
  ·rfl
end Go.Proofs.YtlmbiafloiompaaGreatDoor

namespace Go.Proofs.YtlmbiafloiompaaGreatDoor
open Go Go.RowKit
set_option linter.unusedVariables false
set_option linter.unusedSimpArgs false
set_option maxRecDepth 4000
theorem zg10 (w:World) (A B C:Array Value) (t:TypeId):Box (((w.alloc (.cells A t)).alloc (.cells B t)).alloc (.cells C t)) w.heap.size t A∧Box (((w.alloc (.cells A t)).alloc (.cells B t)).alloc (.cells C t)) (w.heap.size+1) t B∧Box (((w.alloc (.cells A t)).alloc (.cells B t)).alloc (.cells C t)) (w.heap.size+2) t C∧Below w.heap.size w (((w.alloc (.cells A t)).alloc (.cells B t)).alloc (.cells C t)):=by
 obtain⟨h1,h2,h3⟩:=zs6 w A B t
 have h4:=zc ((w.alloc (.cells A t)).alloc (.cells B t)) (.cells C t)
 have e:((w.alloc (.cells A t)).alloc (.cells B t)).heap.size=w.heap.size+2:=by simp
 refine⟨h1.alloc _,h2.alloc _,?_,h3.trans (h4.mono h3.size)⟩
 have:=Box.new ((w.alloc (.cells A t)).alloc (.cells B t)) t C
 rw [e] at this
 exact this
theorem zt17 (s:VSt) (v:Nat):stA { s with x:=v }=(stA s).setIfInBounds 0 (.int .u32 (v:Int)):=rfl
theorem zm3 {s:VSt} (h:StOk s) (b:Bool):stA { s with neck:=b }=(stA s).setIfInBounds 20 (.bool b):=by
 obtain⟨x,env,y,left,alt,neck⟩:=s
 obtain⟨y0,y1,y2,y3,y4,y5,y6,y7,y8,y9,y10,y11,y12,y13,y14,y15,rfl⟩:=zv1 y h.y
 rfl
theorem zm1 {s:VSt} (h:StOk s) (v:Int):stA { s with left:=v }=(stA s).setIfInBounds 18 (.int .i64 v):=by
 obtain⟨x,env,y,left,alt,neck⟩:=s
 obtain⟨y0,y1,y2,y3,y4,y5,y6,y7,y8,y9,y10,y11,y12,y13,y14,y15,rfl⟩:=zv1 y h.y
 rfl
theorem zc5 {s:VSt} (h:StOk s) (b:Bool):stA { s with alt:=b }=(stA s).setIfInBounds 19 (.bool b):=by
 obtain⟨x,env,y,left,alt,neck⟩:=s
 obtain⟨y0,y1,y2,y3,y4,y5,y6,y7,y8,y9,y10,y11,y12,y13,y14,y15,rfl⟩:=zv1 y h.y
 rfl
theorem zd5 (s:VSt) (v:Int):stA { s with env:=v }=(stA s).setIfInBounds 1 (.int .i64 v):=rfl
theorem zl8 {s:VSt} (h:StOk s) (k:Nat) (hk:k<16) (v:Int):stA { s with y:=s.y.set k v }=(stA s).setIfInBounds (2+k) (.int .i64 v):=by
 obtain⟨x,env,y,left,alt,neck⟩:=s
 obtain⟨y0,y1,y2,y3,y4,y5,y6,y7,y8,y9,y10,y11,y12,y13,y14,y15,rfl⟩:=zv1 y h.y
 have h:k=0 ∨ k=1 ∨ k=2 ∨ k=3 ∨ k=4 ∨ k=5 ∨ k=6 ∨ k=7 ∨ k=8 ∨ k=9 ∨ k=10 ∨ k=11 ∨ k=12 ∨ k=13 ∨ k=14 ∨ k=15:=by omega
 rcases h with rfl | rfl | rfl | rfl | rfl | rfl | rfl | rfl | rfl | rfl | rfl | rfl | rfl | rfl | rfl | rfl <;> rfl
def zeroA:Array Value:=#[.int .u32 0,.int .i64 0,.int .i64 0,.int .i64 0,.int .i64 0,.int .i64 0,.int .i64 0,.int .i64 0,.int .i64 0,.int .i64 0,.int .i64 0,.int .i64 0,.int .i64 0,.int .i64 0,.int .i64 0,.int .i64 0,.int .i64 0,.int .i64 0,.int .i64 0,.bool false,.bool false]
def joinK (s t:VSt) (k:Nat):VSt:={ joinV s t with y:=mixTo s.y t.y k }
theorem zy10 (s t:VSt):joinK s t 0={ { s with x:=s.x &&& t.x } with neck:=s.neck && t.neck }:=by unfold joinK joinV;rw [zw18]
theorem zt13 {s t:VSt} (hs:StOk s) (ht:StOk t):joinK s t 16=joinV s t:=by
 have:=mixTo_all s.y t.y (hs.y.trans ht.y.symm)
 rw [hs.y] at this
 unfold joinK
 rw [this]
 rfl
theorem zx4 {s t:VSt} (hs:StOk s) (ht:StOk t) (k:Nat):StOk (joinK s t k):=⟨(zt7 s.y t.y (hs.y.trans ht.y.symm) k).trans hs.y,Nat.lt_of_le_of_lt Nat.and_le_left hs.x⟩
set_option maxHeartbeats 4000000 in
theorem with_st {s t:VSt} (hs:StOk s) (ht:StOk t) (w:World) :
  Calls Tryz.prog 94 #[.agg (stA s),.agg (stA t)] w fun e w'=>e=.returned (.agg (stA (joinV s t)))∧Below w.heap.size w w':=by
 obtain⟨C,hC⟩:∃ C:Nat→Array Value,∀ k,C k=stA (joinK s t k):=⟨fun k=>_,fun _=>rfl⟩
 obtain⟨Y,hY⟩:∃ Y:Nat→Int,∀ k:Nat,Y k=yAt s (k:Int):=⟨fun k=>_,fun _=>rfl⟩
 obtain⟨Z,hZ⟩:∃ Z:Nat→Int,∀ k:Nat,Z k=yAt t (k:Int):=⟨fun k=>_,fun _=>rfl⟩
 obtain⟨X1,X2,X3,hb⟩:=zg10 w (stA s) (stA t) zeroA 58
 have HB:=hD hb
 have HX:=hD X1
 have HY:=hD X2
 have HZ:=hD X3
 clear hb X1 X2 X3
 have s0:=stA_x s
 have t0:=stA_x t
 have s20:=za1 hs
 have t20:=za1 ht
 have HAND:=hD (u32_and_nat s.x t.x (Nat.lt_trans hs.x (by decide)) (Nat.lt_trans ht.x (by decide)))
 have HC0:Hid (C 0=((stA s).setIfInBounds 0 (.int .u32 ((s.x &&& t.x:Nat):Int))).setIfInBounds 20 (.bool (s.neck && t.neck))):=hD (by
  rw [hC,zy10,zm3 (s:={ s with x:=s.x &&& t.x }) ⟨hs.y,Nat.lt_of_le_of_lt Nat.and_le_left hs.x⟩,zt17])
 have HCY:Hid (∀ k,k<16→(C k)[2+k]?=some (.int .i64 (Y k))):=hD (fun k hk=>by
  rw [hC,hY,stA_y (zx4 hs ht k) k hk]
  unfold yAt
  rw [Int.toNat_natCast]
  have:=zg12 s.y t.y (hs.y.trans ht.y.symm) k (by rw [hs.y];exact hk)
  show some (Value.int .i64 ((mixTo s.y t.y k).getD k 0))=_
  rw [this])
 have HTY:Hid (∀ k,k<16→(stA t)[2+k]?=some (.int .i64 (Z k))):=hD (fun k hk=>by rw [hZ];exact stA_y ht k hk)
 have HNE:Hid (∀ k,k<16→Y k≠Z k→C (k+1)=(C k).setIfInBounds (2+k) (.int .i64 3)):=hD (fun k hk hne=>by
  rw [hC,hC,← zl8 (zx4 hs ht k) k hk 3]
  congr 1
  unfold joinK
  have e:=zc7 s.y t.y (hs.y.trans ht.y.symm) k (by rw [hs.y];exact hk)
  have hm:mixY (s.y.getD k 0) (t.y.getD k 0)=3:=by
   unfold mixY
   rw [hY,hZ] at hne
   unfold yAt at hne
   rw [Int.toNat_natCast] at hne
   rw [if_neg hne]
  rw [hm] at e
  rw [e])
 have HEQ:Hid (∀ k,k<16→Y k=Z k→C (k+1)=C k):=hD (fun k hk he=>by
  rw [hC,hC]
  congr 1
  unfold joinK
  rw [hY,hZ] at he
  unfold yAt at he
  rw [Int.toNat_natCast] at he
  rw [za11 s.y t.y (hs.y.trans ht.y.symm) k (by rw [hs.y];exact hk) he])
 have HALL:Hid (stA (joinV s t)=C 16):=hD (by rw [hC,zt13 hs ht])
 have HSZ:Hid (∀ k,(C k).size=21):=hD (fun k=>by rw [hC];exact zg (zx4 hs ht k))
 have H1:Hid (∀ k,(C k).all (·.oneCell')=true):=hD (fun k=>by rw [hC];exact zp _)
 have HZE:Hid (zeroA=#[.int .u32 0,.int .i64 0,.int .i64 0,.int .i64 0,.int .i64 0,.int .i64 0,.int .i64 0,.int .i64 0,.int .i64 0,.int .i64 0,.int .i64 0,.int .i64 0,.int .i64 0,.int .i64 0,.int .i64 0,.int .i64 0,.int .i64 0,.int .i64 0,.int .i64 0,.bool false,.bool false]):=hD rfl
 have HZS:Hid (zeroA.size=21):=hD rfl
 clear hC hY hZ
 generalize stA (joinV s t)=R at HALL ⊢
 generalize zeroA=O at HB HX HY HZ HZE HZS
 generalize stA s=A at HB HX HY HZ HC0 s0 s20 ⊢
 generalize stA t=B at HB HX HY HZ HTY t0 t20 ⊢
 generalize s.x=sx at HAND HC0 s0
 generalize t.x=tx at HAND HC0 t0
 generalize s.neck=sn at HC0 s20
 generalize t.neck=tn at HC0 t20
 generalize sx &&& tx=xx at HAND HC0
 clear hs ht
 go_enter Tryz.func94,Tryz.ntmps94
 go_upto_region 1 with(fail)
 rw [← HZE.out]
 obtain⟨w1,hw1⟩:∃ w1,((w.alloc (.cells A 58)).alloc (.cells B 58)).alloc (.cells O 58)=w1:=⟨_,rfl⟩
 obtain⟨g,hg⟩:∃ g,w.heap.size=g:=⟨_,rfl⟩
 rw [hw1] at HB HX HY HZ ⊢
 have HG:=hD HB.out.size
 rw [hg] at HB HX HY HZ HG ⊢
 clear hw1 HZE
 have c0:=HX.out.cell 0
 have c20:=HX.out.cell 20
 have z0:=HX.out.frozen 0
 have z20:=HX.out.frozen 20
 have d0:=HY.out.cell 0
 have d20:=HY.out.cell 20
 rw [s0] at c0
 rw [s20] at c20
 rw [t0] at d0
 rw [t20] at d20
 clear s0 s20 t0 t20
 obtain⟨nb,hnb⟩:∃ nb,(sn && tn)=nb:=⟨_,rfl⟩
 rw [hnb] at HC0
 have HX2:=hD ((HX.out.set_ 0 (.int .u32 (xx:Int))).set_ 20 (.bool nb))
 rw [← HC0.out] at HX2
 have HY2:=hD ((HY.out.far (p:=⟨g,0,none⟩) (by simp) (.int .u32 (xx:Int))).far (p:=⟨g,20,none⟩) (by simp) (.bool nb))
 have HZ2:=hD ((HZ.out.far (p:=⟨g,0,none⟩) (by simp) (.int .u32 (xx:Int))).far (p:=⟨g,20,none⟩) (by simp) (.bool nb))
 have HB2:=hD ((HB.out.setCell (p:=⟨g,0,none⟩) (Nat.le_refl _) (.int .u32 (xx:Int))).setCell (p:=⟨g,20,none⟩) (Nat.le_refl _) (.bool nb))
 have HAND2:=HAND.out
 clear HC0 HX HY HZ HB HAND
 rcases Bool.eq_false_or_eq_true sn with hsn | hsn
 all_goals
  subst hsn
  try (obtain rfl:tn=nb:=hnb)
  try (obtain rfl:false=nb:=hnb)
  go_upto_region 3 with(fail)
  generalize hw2:(w1.setCell ⟨g,0,none⟩ (.int .u32 (xx:Int))).setCell ⟨g,20,none⟩ _=w2 at HX2 HY2 HZ2 HB2 ⊢
  clear hw2 c0 c20 z0 z20 d0 d20 HAND2
  go_wp2
  go_loopw [5,19] (fun yv i wr=>∃ k:Nat,k≤16∧i=.int .i64 k∧Hid (Box wr g 58 (C k))∧Hid (Box wr (g+1) 58 B)∧Hid (Box wr (g+2) 58 O)∧Hid (Below g w wr)) (fun yv i _=>16 - (intOf i).toNat)
  case atStart=>exact⟨0,by omega,rfl,HX2,HY2,HZ2,HB2⟩
  obtain⟨k,hk,rfl,HX,HY,HZ,HB⟩:=hrel
  clear HX2 HY2 HZ2 HB2
  by_cases hlt:k<16
  case pos=>
   have c1:=HX.out.cell (2+k)
   have z1:=HX.out.frozen (2+k)
   have d1:=HY.out.cell (2+k)
   rw [HCY.out k hlt] at c1
   rw [HTY.out k hlt] at d1
   have i0:(0:Int)≤(k:Int):=by omega
   have i1:(k:Int)<16:=by omega
   by_cases hyz:Y k=Z k
   ·have e1:(Y k != Z k)=false:=by rw [bne_eq_false_iff_eq];exact hyz
    have HN:=hD (HEQ.out k hlt hyz)
    clear hyz
    generalize Y k=yk at c1 e1
    generalize Z k=zk at d1 e1
    go_wp2_with fail
    go_quiet (fail)
    go_wp2
    go_roundw
    case rel=>exact⟨k+1,by omega,by go_num,hD (by rw [HN.out];exact HX.out.drewN _),hD (HY.out.drewN _),hD (HZ.out.drewN _),hD (bel_dn HB.out _)⟩
    case measure=>simp [intOf];omega
   ·have e1:(Y k != Z k)=true:=by rw [bne_iff_ne];exact hyz
    have HN:=hD (HNE.out k hlt hyz)
    clear hyz
    generalize Y k=yk at c1 e1
    generalize Z k=zk at d1 e1
    go_wp2_with fail
    go_quiet (fail)
    go_wp2
    go_roundw
    case rel=>exact⟨k+1,by omega,by go_num,hD (by rw [HN.out];exact(HX.out.drewN _).set_ (2+k) (.int .i64 3)),hD ((HY.out.drewN _).far (p:=⟨g,2+k,none⟩) (by simp) _),hD ((HZ.out.drewN _).far (p:=⟨g,2+k,none⟩) (by simp) _),hD ((bel_dn HB.out _).setCell (p:=⟨g,2+k,none⟩) (Nat.le_refl _) _)⟩
    case measure=>simp [intOf];omega
  case neg=>
  obtain rfl:k=16:=by omega
  go_wp2_with (first | (refine ze rfl (.tmp 2) rfl g rfl (C 16) HX.out (HSZ.out 16) ?_) | (refine zj rfl (.tmp 4) (.tmp 35) rfl (g+2) (C 16) O rfl rfl HZ.out (HSZ.out 16) HZS.out (H1.out 16) ?_))
  exact bodyPost_ret (zt rfl _ _ (g+2) (C 16) rfl (HZ.out.row (C 16)) (HSZ.out 16)) rfl ⟨by rw [HALL.out],by rw [hg];exact zn HB.out (by omega) (C 16)⟩
end Go.Proofs.YtlmbiafloiompaaGreatDoor

namespace Go.Proofs.YtlmbiafloiompaaGreatDoor
open Go Go.RowKit
set_option linter.unusedVariables false
set_option linter.unusedSimpArgs false
set_option maxRecDepth 4000
def pdC (p:VPl):List Value:=.bool p.here :: .bool p.bad :: (stA p.s).toList
def pdA (P:List VPl):Array Value:=(P.flatMap pdC).toArray
theorem zf2 {p:VPl} (h:StOk p.s):(pdC p).length=23:=by
 have:=zg h
 simp [pdC,this]
theorem zk8 (p:VPl):(pdC p)[0]?=some (.bool p.here):=rfl
theorem zt15 (p:VPl):(pdC p)[1]?=some (.bool p.bad):=rfl
theorem pdC_s (p:VPl) (j:Nat):(pdC p)[2+j]?=(stA p.s)[j]?:=by
 unfold pdC
 rw [Nat.add_comm,List.getElem?_cons_succ,List.getElem?_cons_succ,Array.getElem?_toList]
theorem zo4 (p:VPl):(pdC p).toArray.all (·.oneCell')=true:=by
 refine Array.all_eq_true_iff_forall_mem.2 fun v hv=>?_
 simp only [pdC,List.mem_toArray,List.mem_cons] at hv
 rcases hv with rfl | rfl | hv
 ·rfl
 ·rfl
 ·exact Array.all_eq_true_iff_forall_mem.1 (zp p.s) v (by simpa using hv)
theorem zl12 {P:List VPl} (h:PlOk P):(pdA P).size=P.length * 23:=by
 unfold pdA
 rw [List.size_toArray]
 exact zh2 pdC 23 P (fun p hp=>zf2 (h p hp))
theorem pdA_at {P:List VPl} (h:PlOk P) {n:Nat} (hn:n<P.length) {j:Nat} (hj:j<23):(pdA P)[n * 23+j]?=(pdC P[n])[j]?:=by
 unfold pdA
 rw [List.getElem?_toArray]
 exact zm2 pdC 23 P (fun p hp=>zf2 (h p hp)) n P[n] (List.getElem?_eq_getElem hn) j hj
theorem pdA_ext {P:List VPl} (h:PlOk P) {A:Array Value} (hs:A.size=P.length * 23) (ha:∀ k (hk:k<P.length) j,j<23→A[k * 23+j]?=(pdC P[k])[j]?):A=pdA P:=by
 apply Array.ext_getElem?
 intro m
 by_cases hm:m<P.length * 23
 ·have hk:m / 23<P.length:=by omega
  have e:m=m / 23 * 23+m % 23:=by omega
  rw [e,ha (m / 23) hk (m % 23) (Nat.mod_lt _ (by decide)),pdA_at h hk (Nat.mod_lt _ (by decide))]
 ·rw [Array.getElem?_eq_none (by omega),Array.getElem?_eq_none (by rw [zl12 h];omega)]
theorem pdA_put {P:List VPl} (h:PlOk P) {n:Nat} (hn:n<P.length) {q:VPl} (hq:StOk q.s):putL (pdA P) (n * 23) (pdC q)=pdA (P.set n q):=by
 have hl:=zf2 hq
 refine pdA_ext (h.set hq) (by rw [zp9,zl12 h,List.length_set]) fun k hk j hj=>?_
 rw [List.length_set] at hk
 rw [zh7 _ _ _ _ (by rw [zl12 h,hl];omega),hl]
 by_cases e:k=n
 ·subst e
  rw [List.getElem_set_self,if_pos (by omega),show k * 23+j - k * 23=j by omega]
 ·rw [if_neg (by omega),pdA_at h hk hj,List.getElem_set_ne (fun x=>e x.symm)]
theorem zj9 {w:World} {g:Nat} {t:TypeId} {P:List VPl} (hb:Box w g t (pdA P)) (h:PlOk P) {n:Nat} (hn:n<P.length):w.rangeAt g (n * 23) (pdC P[n]):=by
 intro j v hv
 have hp:=h P[n] (List.getElem_mem hn)
 have hj:j<23:=by
  have:=(List.getElem?_eq_some_iff.1 hv).1
  rw [zf2 hp] at this
  exact this
 rw [hb.cell,pdA_at h hn hj]
 exact hv
theorem zi9 {w:World} {g:Nat} {t:TypeId} {P:List VPl} (hb:Box w g t (pdA P)) (h:PlOk P) {n:Nat} (hn:n<P.length):w.there g (n * 23) 23:=by
 intro j hj
 have hp:=h P[n] (List.getElem_mem hn)
 refine⟨?_,hb.frozen _⟩
 rw [hb.cell,pdA_at h hn hj]
 have:=zf2 hp
 rw [List.getElem?_eq_getElem (by omega)]
 rfl
/-! The document's State and place,whole in memory. -/
theorem zd:(Tryz.prog.info? 95).map (·.size)=some 21:=by kernel_rfl
theorem zr:(Tryz.prog.underlying 95).map TypeDesc.isRow=some true:=by kernel_rfl
theorem zp1:(Tryz.prog.info? 97).map (·.size)=some 23:=by kernel_rfl
theorem zv2:(Tryz.prog.underlying 97).map TypeDesc.isRow=some true:=by kernel_rfl
theorem zn12 {t:TypeId} (hr:(Tryz.prog.underlying t).map TypeDesc.isRow=some true):∃ d,Tryz.prog.underlying t=some d∧d.isRow=true:=by
 cases hu:Tryz.prog.underlying t with
 | none=>rw [hu] at hr;exact absurd hr (by decide)
 | some d=>
  rw [hu] at hr
  exact⟨d,rfl,Option.some.inj hr⟩
section
variable {t:TypeId} {N:Nat}
theorem zw (hr:(Tryz.prog.underlying t).map TypeDesc.isRow=some true) (hz:(Tryz.prog.info? t).map (·.size)=some N) {ops:Array Oper} {rest:List Oper} {op:Oper} {a:Act} {w:World} {Q:Exit→Act→World→Prop} (hw:Region.wanted op (yielded ops a.tmps)=true) (x:Operand) (ho:op.op=.load t x)
  (g o:Nat) (hx:a.eval x=.pointer (some ⟨g,o,none⟩)) (A:Array Value) (hb:w.rangeAt g o A.toList) (hs:A.size=N)
  (h:wpList Tryz.prog ops Q rest (a.put op.dst (.agg A)) w):wpList Tryz.prog ops Q (op :: rest) a w:=by
 obtain⟨d,hd,hd'⟩:=zn12 hr
 refine BigFrame.wpList_want hw fun K hK=>wp_load_mid t x ho g o hx A.toList d hb hd hd' (by rw [Array.length_toList,hs];exact hz) ?_
 rw [Array.toArray_toList]
 exact hK _ _ h
theorem za (hz:(Tryz.prog.info? t).map (·.size)=some N) {ops:Array Oper} {rest:List Oper} {op:Oper} {a:Act} {w:World} {Q:Exit→Act→World→Prop} (hgd:op.guard=none) (x y:Operand) (ho:op.op=.store t x y)
  (g o:Nat) (A:Array Value) (hx:a.eval x=.pointer (some ⟨g,o,none⟩)) (hy:a.eval y=.agg A) (ht:w.there g o N) (hs:A.size=N) (h1:A.all (·.oneCell')=true)
  (h:wpList Tryz.prog ops Q rest (a.put op.dst undef) (w.setCells g o A.toList)):wpList Tryz.prog ops Q (op :: rest) a w:=
 wpList_store_mid hgd t x y ho g o A hx hy (by rw [hs];exact ht) (by rw [hs];exact hz) h1 h
theorem zz1 (hr:(Tryz.prog.underlying t).map TypeDesc.isRow=some true) (hz:(Tryz.prog.info? t).map (·.size)=some N) {fn:Func} {p:Tmp} (h:fn.results=#[.cell p t]) (tmps:Array Value) (w:World) (g:Nat) (A:Array Value)
  (hp:tmps.getD p undef=.pointer (some ⟨g,0,none⟩)) (hb:Box w g t A) (hs:A.size=N):(results fn tmps).run Tryz.prog w=.ok (.agg A) w:=by
 obtain⟨d,hd,hd'⟩:=zn12 hr
 exact results_cell_row h tmps w g t A (0,0) d hp hb hd (by cases d <;> first | rfl | exact absurd hd' Bool.false_ne_true) (by rw [hs];exact hz)
end
theorem zi {w:World} {g:Nat} {t:TypeId} {A:Array Value} (h:Box w g t A) {o m:Nat} (hm:o+m≤A.size):w.there g o m:=fun j hj=>⟨by rw [h.cell,Array.getElem?_eq_getElem (by omega)];rfl,h.frozen _⟩
theorem zf {w:World} {g:Nat} {t:TypeId} {A:Array Value} (h:Box w g t A):w.rangeAt g 0 A.toList:=fun j v hv=>by
 rw [h.cell,Nat.zero_add,← Array.getElem?_toList]
 exact hv
theorem zi1 {w:World} {g:Nat} {t:TypeId} {A B:Array Value} (h:Box w g t B) (hs:A.size=B.size):Box (w.setCells g 0 A.toList) g t A:=by
 have h1:=Box.setCells A.toList w B 0 h
 have e:putL B 0 A.toList=A:=by
  apply Array.ext_getElem?
  intro j
  rw [zh7 _ _ _ _ (by rw [Array.length_toList];omega),Array.length_toList]
  by_cases hj:j<A.size
  ·rw [if_pos (by omega),Nat.sub_zero,Array.getElem?_toList]
  ·rw [if_neg (by omega),Array.getElem?_eq_none (by omega),Array.getElem?_eq_none (by omega)]
 rw [e] at h1
 exact h1
theorem zu {b g:Nat}:∀ (vs:List Value) (w w':World) (o:Nat),Below b w w'→b≤g→Below b w (w'.setCells g o vs)
 | [],_,_,_,h,_=>h
 | v :: r,w,w',o,h,hg=>zu r w _ (o+1) (h.setCell (p:=⟨g,o,none⟩) hg v) hg
end Go.Proofs.YtlmbiafloiompaaGreatDoor
