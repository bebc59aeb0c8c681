/-
  5 texts in one (VerQ VDocM VDocD VDocE RegT). Conditions: those of each theorem.
-/
import Derived.Test.YtlmbiafloiompaaGreatDoorJO09
import Derived.Test.YtlmbiafloiompaaGreatDoorJO10
import Derived.Test.YtlmbiafloiompaaGreatDoorJO01
import Derived.Test.YtlmbiafloiompaaGreatDoorJO11
import Derived.Laws.ResultCell
import Derived.Deep.RegionHeld3
import Derived.StillTailTactics
set_option linter.unusedVariables false
set_option linter.unusedSimpArgs false
namespace Go.Proofs.YtlmbiafloiompaaGreatDoor
open Go
/-! What comes to a place. -/
theorem zr5 {P:List VPl} {t:Int} {s:VSt} {j:Nat} {p:VPl} (h:(bringV P t s)[j]?=some p) (hp:p.here=true):t.toNat=j ∨ ∃ q,P[j]?=some q∧q.here=true:=by
 rw [zu2] at h
 by_cases e:t.toNat=j
 ·exact .inl e
 ·rw [if_neg e] at h
  exact .inr ⟨p,h,hp⟩
theorem zk9 (f:Int→VSt):∀ (l:List Int) (P:List VPl) (j:Nat) (p:VPl),(l.foldl (fun R t=>bringV R t (f t)) P)[j]?=some p→p.here=true→(∃ t ∈ l,t.toNat=j) ∨ ∃ q,P[j]?=some q∧q.here=true
 | [],P,j,p,h,hp=>.inr ⟨p,h,hp⟩
 | t :: l,P,j,p,h,hp=>by
  rw [List.foldl_cons] at h
  rcases zk9 f l _ j p h hp with⟨u,hu,e⟩ | ⟨q,hq,hqh⟩
  ·exact .inl ⟨u,List.mem_cons_of_mem _ hu,e⟩
  ·rcases zr5 hq hqh with e | h2
   ·exact .inl ⟨t,List.mem_cons_self,e⟩
   ·exact .inr h2
def GoesV (o:Ob) (m j:Nat):Prop:=(onV (o.code.getD m (0,0,0,0,0)).1=true∧j=m+1) ∨ ∃ t ∈ labsV (o.code.getD m (0,0,0,0,0)),t.toNat=j
theorem pass_here {o:Ob} {ar stop:Int} {n:Nat} {P Q:List VPl} (h:passV o ar stop n P=some Q):leadsV stop n (o.code.getD n (0,0,0,0,0))=true∧(P.getD n plZero).here=true∧∀ j p,Q[j]?=some p→p.here=true→GoesV o n j ∨ ∃ q,P[j]?=some q∧q.here=true:=by
 unfold passV at h
 simp only at h
 split at h
 ·cases h
 ·rename_i hc
  have h1:leadsV stop n (o.code.getD n (0,0,0,0,0))=true:=by
   cases hx:leadsV stop n (o.code.getD n (0,0,0,0,0)) with
   | true=>rfl
   | false=>exact absurd (.inr (.inr (.inr hx))) hc
  have h2:(P.getD n plZero).here=true:=by
   cases hx:(P.getD n plZero).here with
   | true=>rfl
   | false=>exact absurd (.inr (.inl hx)) hc
  injection h with h
  refine⟨h1,h2,fun j p hj hp=>?_⟩
  rw [← h] at hj
  rcases zk9 _ _ _ j p hj hp with⟨t,ht,e⟩ | ⟨q,hq,hqh⟩
  ·exact .inl (.inr ⟨t,ht,e⟩)
  ·split at hq
   ·rename_i ho
    rcases zr5 hq hqh with e | h3
    ·exact .inl (.inl ⟨ho,by omega⟩)
    ·exact .inr h3
   ·exact .inr ⟨q,hq,hqh⟩
theorem walk_ok {o:Ob}:∀ (f n:Nat) (P:List VPl) (l l':List VSt),walkV o f n P l=.ok l'→(∀ j p,P[j]?=some p→p.here=true→(∃ q ∈ o.preds,q.2.2.toNat=j) ∨ ∃ m,m<n∧GoesV o m j) →
  ∀ m,n≤m→m<n+f→leadsV (stopV o m) m (o.code.getD m (0,0,0,0,0))=true∧((∃ q ∈ o.preds,q.2.2.toNat=m) ∨ ∃ k,k<m∧GoesV o k m)
 | 0,n,P,l,l',_,_,m,h1,h2=>by omega
 | f+1,n,P,l,l',h,hi,m,h1,h2=>by
  rw [walkV] at h
  cases hp:passV o (arityP o (ownV o n)) (stopV o n) n P with
  | none=>rw [hp] at h;cases h
  | some Q=>
   rw [hp] at h
   obtain⟨g1,g2,g3⟩:=pass_here hp
   by_cases e:m=n
   ·subst e
    refine⟨g1,?_⟩
    rw [List.getD_eq_getElem?_getD] at g2
    cases hx:P[m]? with
    | none=>rw [hx] at g2;simp [plZero] at g2
    | some p=>
     rw [hx] at g2
     exact hi m p hx g2
   ·exact walk_ok f (n+1) Q _ l' h (fun j p hj hjh=>by
     rcases g3 j p hj hjh with x | ⟨q,hq,hqh⟩
     ·exact .inr ⟨n,by omega,x⟩
     ·rcases hi j q hq hqh with y | ⟨k,hk,y⟩
      ·exact .inl y
      ·exact .inr ⟨k,by omega,y⟩) m (by omega) (by omega)
theorem zh12 {o:Ob} {j:Nat} {p:VPl} (h:(startV o)[j]?=some p) (hp:p.here=true):∃ q ∈ o.preds,q.2.2.toNat=j:=by
 by_cases hx:∃ q ∈ o.preds,q.2.2.toNat=j
 ·exact hx
 ·unfold startV at h
  rw [zx6 o.preds _ j (fun q hq e=>hx ⟨q,hq,e⟩)] at h
  rw [List.getElem?_replicate] at h
  split at h
  ·injection h with h
   rw [← h] at hp
   cases hp
  ·cases h
theorem stopV_le (o:Ob) (n:Int):stopV o n≤(o.code.length:Int):=(zu8 0 _ _).2.1
theorem zp9 {o:Ob} {k:Nat} (hk:k<o.preds.length):entP o (k:Int)=o.preds[k].2.2:=by
 unfold entP
 rw [Int.toNat_natCast,List.getD_eq_getElem?_getD,List.getElem?_eq_getElem hk]
 rfl
theorem zt10 (o:Ob) (n:Int):(stopV o n=(o.code.length:Int) ∨ ∃ k,∃ h:k<o.preds.length,n<o.preds[k].2.2∧stopV o n=o.preds[k].2.2)∧(stopV o n≤(o.code.length:Int))∧∀ k (h:k<o.preds.length),n<o.preds[k].2.2→stopV o n≤o.preds[k].2.2:=by
 obtain⟨h1,h2,h3⟩:=zu8 0 (o.preds.filter fun p=>decide (n<p.2.2)) (o.code.length:Int)
 refine⟨?_,h2,fun k hk hn=>h3 _ (List.mem_filter.2 ⟨List.getElem_mem hk,by simpa using hn⟩)⟩
 rcases h1 with h1 | ⟨q,hq,h1⟩
 ·exact .inl h1
 ·obtain⟨hq1,hq2⟩:=List.mem_filter.1 hq
  obtain⟨k,hk,e⟩:=List.getElem_of_mem hq1
  refine .inr ⟨k,hk,?_,?_⟩
  ·rw [e]
   simpa using hq2
  ·rw [e]
   exact h1
theorem own_up {o:Ob} {n t:Int} (hnt:n≤t) (ht:t<stopV o n):∀ m,m≤o.preds.length→(List.range m).foldl (ownStep o t) (-1)=(List.range m).foldl (ownStep o n) (-1)
 | 0,_=>rfl
 | m+1,hm=>by
  rw [List.range_succ,List.foldl_append,List.foldl_append,own_up hnt ht m (by omega)]
  show ownStep o t _ m=ownStep o n _ m
  have hk:m<o.preds.length:=by omega
  have e:=zp9 (o:=o) hk
  have h:=(zt10 o n).2.2 m hk
  have h2:(entP o (m:Int)≤t)=(entP o (m:Int)≤n):=by
   rw [e]
   apply propext
   constructor
   ·intro h1
    by_cases h2:n<o.preds[m].2.2
    ·have:=h h2
     omega
    ·omega
   ·intro h1
    omega
  unfold ownStep
  simp only [h2]
theorem ze13 {o:Ob} {n t:Int} (hnt:n≤t) (htl:t<(o.code.length:Int)):(ownV o t=ownV o n) ↔ t<stopV o n:=by
 constructor
 ·intro h
  by_cases hs:t<stopV o n
  ·exact hs
  ·exfalso
   rcases(zt10 o n).1 with h1 | ⟨k,hk,h1,h2⟩
   ·omega
   ·have e:=zp9 (o:=o) hk
    rcases zi4 o t o.preds.length with⟨_,h4⟩ | ⟨j,hj,h3,h4,h5⟩
    ·exact h4 k hk (by omega)
    ·have h6:=h5 k hk (by omega)
     have h3':ownV o t=(j:Int):=h3
     rcases zi4 o n o.preds.length with⟨h7,_⟩ | ⟨j2,hj2,h7,h8,h9⟩
     ·have h7':ownV o n = -1:=h7
      omega
     ·have h7':ownV o n=(j2:Int):=h7
      have hjj:j=j2:=by omega
      subst hjj
      omega
 ·intro h
  exact own_up hnt h _ (Nat.le_refl _)
theorem own_lt (o:Ob) (n:Int):ownV o n<(o.preds.length:Int)∧-1≤ownV o n:=by
 rcases zi4 o n o.preds.length with⟨h,_⟩ | ⟨j,hj,h,_,_⟩
 ·have h':ownV o n = -1:=h
  omega
 ·have h':ownV o n=(j:Int):=h
  omega
theorem own_in {o:Ob} {n:Int} {k:Nat} (hk:k<o.preds.length) (h:o.preds[k].2.2≤n):0≤ownV o n:=by
 have e:=zp9 (o:=o) hk
 rcases zi4 o n o.preds.length with⟨_,h2⟩ | ⟨j,hj,h2,_,_⟩
 ·exact absurd (by rw [e];exact h) (h2 k hk)
 ·have h':ownV o n=(j:Int):=h2
  omega
def InCode (o:Ob) (P:List VPl):Prop:=∀ (j:Nat) p,P[j]?=some p→p.here=true→0≤ownV o (j:Int)
theorem InCode.start (o:Ob):InCode o (startV o):=fun j p hp hh=>by
 obtain⟨q,hq,e⟩:=zh12 hp hh
 obtain⟨k,hk,rfl⟩:=List.getElem_of_mem hq
 exact own_in hk (by omega)
theorem InCode.bring {o:Ob} {P:List VPl} (h:InCode o P) {t:Int} (h0:0≤t) (ht:0≤ownV o t) (s:VSt):InCode o (bringV P t s):=fun j p hp hh=>by
 rcases zr5 hp hh with e | ⟨q,hq,hqh⟩
 ·have:(j:Int)=t:=by omega
  rw [this]
  exact ht
 ·exact h j q hq hqh
/-! What the document finds wrong,and what it goes on with. -/
section
variable {o:Ob} {n:Nat} {P:List VPl} {i:Ins} {p:VPl}
theorem zy11 {ar stop:Int} (hp:P.getD n plZero=p) (h:p.here=false ∨ p.bad=true):passV o ar stop n P=none:=by
 unfold passV
 simp only
 rw [hp]
 rcases h with h | h
 ·rw [if_pos (.inr (.inl h))]
 ·rw [if_pos (.inl h)]
theorem zn20 {ar stop:Int} (hp:P.getD n plZero=p) (hi:o.code.getD n (0,0,0,0,0)=i) (h:asksV o ar i p.s=false):passV o ar stop n P=none:=by
 unfold passV
 simp only
 rw [hp,hi,if_pos (.inr (.inr (.inl h)))]
theorem zr7 {ar stop:Int} (hi:o.code.getD n (0,0,0,0,0)=i) (h:leadsV stop n i=false):passV o ar stop n P=none:=by
 unfold passV
 simp only
 rw [hi,if_pos (.inr (.inr (.inr h)))]
theorem pass_some {ar stop:Int} (hp:P.getD n plZero=p) (hi:o.code.getD n (0,0,0,0,0)=i) (h1:p.here=true) (h2:p.bad=false) (h3:asksV o ar i p.s=true) (h4:leadsV stop n i=true) :
  passV o ar stop n P=some ((labsV i).foldl (fun Q t=>bringV Q t (if i.1=26 then makesV o i p.s else stOther ar.toNat)) (if onV i.1=true then bringV P ((n:Int)+1) (makesV o i p.s) else P)):=by
 unfold passV
 simp only
 rw [hp,hi,if_neg (by rw [h1,h2,h3,h4];decide)]
theorem lead_on (hn:n<o.code.length) (h:¬ ((n:Int)+1<(o.code.length:Int)∧ownV o ((n:Int)+1)=ownV o n)) (ho:onV i.1=true):leadsV (stopV o n) n i=false:=by
 have hs:=(zt10 o n).2.1
 unfold leadsV
 rw [ho]
 have h1:¬ ((n:Int)+1<stopV o n):=fun hx=>h ⟨by omega,(ze13 (by omega) (by omega)).2 hx⟩
 rw [decide_eq_false h1]
 rfl
theorem zi18 {t:Int} (ht:t ∈ labsV i) (htl:t<(o.code.length:Int)) (h:¬ ((n:Int)<t∧ownV o t=ownV o n)):leadsV (stopV o n) n i=false:=by
 have h1:((labsV i).all fun t=>decide ((n:Int)<t) && decide (t<stopV o n))=false:=by
  rw [List.all_eq_false]
  refine⟨t,ht,?_⟩
  intro hx
  rw [Bool.and_eq_true,decide_eq_true_eq,decide_eq_true_eq] at hx
  exact h ⟨hx.1,(ze13 (by omega) htl).2 hx.2⟩
 unfold leadsV
 rw [h1,Bool.and_false]
theorem lead_yes (ho:onV i.1=true→(n:Int)+1<(o.code.length:Int)∧ownV o ((n:Int)+1)=ownV o n) (hl:∀ t ∈ labsV i,(n:Int)<t∧t<(o.code.length:Int)∧ownV o t=ownV o n):leadsV (stopV o n) n i=true:=by
 unfold leadsV
 rw [Bool.and_eq_true]
 constructor
 ·cases hx:onV i.1 with
  | false=>rfl
  | true=>
   obtain⟨h1,h2⟩:=ho hx
   rw [decide_eq_true ((ze13 (by omega) h1).1 h2)]
   rfl
 ·rw [List.all_eq_true]
  intro t ht
  obtain⟨h1,h2,h3⟩:=hl t ht
  rw [decide_eq_true h1,decide_eq_true ((ze13 (by omega) h2).1 h3)]
  rfl
theorem walk_stop {f:Nat} {l:List VSt} (h:passV o (arityP o (ownV o n)) (stopV o n) n P=none):walkV o (f+1) n P l=.error n:=by
 rw [walkV,h]
theorem walk_next {f:Nat} {l:List VSt} {Q:List VPl} (h:passV o (arityP o (ownV o n)) (stopV o n) n P=some Q):walkV o (f+1) n P l=walkV o f (n+1) Q (l ++ [(P.getD n plZero).s]):=by
 rw [walkV,h]
end
theorem lab_mem {i:Ins} {k:Nat} (hk:k<(opsOf i.1).length) (h1:(opsOf i.1).getD k 0=8) (h2:(argOf i).getD k 0≠65535):(argOf i).getD k 0 ∈ labsV i:=by
 unfold labsV
 rw [List.mem_map]
 exact⟨k,by rw [List.mem_filter,List.mem_range,decide_eq_true h1,decide_eq_true h2];exact⟨hk,rfl⟩,rfl⟩
end Go.Proofs.YtlmbiafloiompaaGreatDoor

namespace Go.Proofs.YtlmbiafloiompaaGreatDoor
open Go Go.RowKit
set_option maxRecDepth 100000
set_option maxHeartbeats 4000000 in
theorem zi13 {o:Ob} (hlp:o.preds.length≤1000) (n:Int) {va vf vp vc:Value} (w:World) (hv:ObAt w va vf vp vc o) :
  Calls Tryz.prog 31 #[.agg #[va,vf,vp,vc],.int .i64 n] w fun e w'=>e=.returned (.int .i64 (ownV o n))∧Below w.heap.size w w':=by
 obtain⟨A1,c1,rfl⟩:=CellsAt.form hv.atoms
 obtain⟨A2,cf,rfl⟩:=CellsAt.form hv.funs
 obtain⟨A3,cp,rfl⟩:=CellsAt.form hv.preds
 obtain⟨A4,c4,rfl⟩:=CellsAt.form hv.code
 obtain⟨res,hres⟩:∃ res,ownV o n=res:=⟨_,rfl⟩
 have HR:Hid ((List.range o.preds.length).foldl (ownStep o n) (-1)=res):=hD hres
 rw [hres]
 clear hres
 have HV:=hD hv
 have HB0:=hD (za w (.cells #[.slice A1 o.atoms.length c1,.slice A2 o.funs.length cf,.slice A3 o.preds.length cp,.slice A4 o.code.length c4] 27))
 have HX0:=hD (Box.new w 27 #[.slice A1 o.atoms.length c1,.slice A2 o.funs.length cf,.slice A3 o.preds.length cp,.slice A4 o.code.length c4])
 have HSP:=hD (zi4 o n)
 clear hv
 go_enter Tryz.func31,Tryz.ntmps31
 go_upto_region 1 with(fail)
 obtain⟨w1,hw1⟩:∃ w1,w.alloc (.cells #[.slice A1 o.atoms.length c1,.slice A2 o.funs.length cf,.slice A3 o.preds.length cp,.slice A4 o.code.length c4] 27)=w1:=⟨_,rfl⟩
 obtain⟨g,hg⟩:∃ g,w.heap.size=g:=⟨_,rfl⟩
 have HG:=hD hg
 rw [hw1] at HB0 HX0 ⊢
 rw [hg] at HB0 HX0 ⊢
 clear hw1 hg
 go_wp2
 go_loopw [5,6,7] (fun ow i _ wr=>∃ (k:Nat) (y:Int),k≤o.preds.length∧i=.int .i64 k∧ow=.int .i64 y∧Hid ((List.range k).foldl (ownStep o n) (-1)=y)∧wr=w1) (fun _ i _ _=>o.preds.length - (intOf i).toNat)
 case atStart=>exact⟨0,-1,by omega,rfl,rfl,hD rfl,rfl⟩
 obtain⟨k,y,hk,rfl,rfl,HY,rfl⟩:=hrel
 have q2:=HX0.out.cell 2
 by_cases hlt:k<o.preds.length
 case pos=>
  obtain⟨b,of,rfl,hb,_,_,hc2⟩:=zd1 HV.out.preds k hlt
  have d2:=(HB0.out.cell (p:=⟨b,of+k * 3+2,none⟩) (by rw [← HG.out];exact hb)).trans hc2
  have hek:=zp9 (o:=o) hlt
  have HNX:Hid ((List.range (k+1)).foldl (ownStep o n) (-1)=ownStep o n y k):=hD (by rw [List.range_succ,List.foldl_append,HY.out];rfl)
  have i0:(0:Int)≤(k:Int):=by omega
  have i1:(k:Int)<(o.preds.length:Int):=by omega
  rcases HSP.out k with⟨hs1,_⟩ | ⟨j,hj,hs1,hs2,_⟩
  ·obtain rfl:y = -1:=by rw [← HY.out,hs1]
   by_cases he:o.preds[k].2.2≤n
   ·have HNY:Hid (ownStep o n (-1) k=(k:Int)):=hD (by unfold ownStep;rw [hek,if_pos ⟨he,.inl (by decide)⟩])
    generalize o.preds[k].2.2=e at d2 he
    clear hc2 hek hs1
    go_wp2
    go_roundw
    case rel=>exact⟨k+1,_,by omega,by go_num,rfl,hD (HNX.out.trans HNY.out),by first | rfl | trivial⟩
    case measure=>simp [intOf];omega
   ·have HNY:Hid (ownStep o n (-1) k = -1):=hD (by unfold ownStep;rw [hek,if_neg (fun h=>he h.1)])
    generalize o.preds[k].2.2=e at d2 he
    clear hc2 hek hs1
    go_wp2
    go_roundw
    case rel=>exact⟨k+1,_,by omega,by go_num,rfl,hD (HNX.out.trans HNY.out),by first | rfl | trivial⟩
    case measure=>simp [intOf];omega
  ·obtain rfl:y=(j:Int):=by rw [← HY.out,hs1]
   have hjl:j<o.preds.length:=by omega
   obtain⟨b',of',he',hb',_,_,hc3⟩:=zd1 HV.out.preds j hjl
   obtain⟨rfl,rfl⟩:b'=b∧of'=of:=by
    injection he' with h1
    injection h1 with h1 h2
    exact⟨h1.symm,h2.symm⟩
   have d3:=(HB0.out.cell (p:=⟨b',of' + j * 3+2,none⟩) (by rw [← HG.out];exact hb')).trans hc3
   have hej:=zp9 (o:=o) hjl
   have j0:(0:Int)≤(j:Int):=by omega
   have j1:(j:Int)<(o.preds.length:Int):=by omega
   have j2:¬ ((j:Int)<0):=by omega
   by_cases he:o.preds[k].2.2≤n
   ·by_cases hg:o.preds[j].2.2<o.preds[k].2.2
    ·have HNY:Hid (ownStep o n (j:Int) k=(k:Int)):=hD (by unfold ownStep;rw [hek,hej,if_pos ⟨he,.inr hg⟩])
     generalize o.preds[k].2.2=e at d2 he hg
     generalize o.preds[j].2.2=e' at d3 hg
     clear hc2 hc3 hek hej hs1 hs2 he'
     go_wp2
     go_roundw
     case rel=>exact⟨k+1,_,by omega,by go_num,rfl,hD (HNX.out.trans HNY.out),by first | rfl | trivial⟩
     case measure=>simp [intOf];omega
    ·have HNY:Hid (ownStep o n (j:Int) k=(j:Int)):=hD (by
      unfold ownStep
      rw [hek,hej,if_neg]
      rintro⟨_,h | h⟩
      ·omega
      ·exact hg h)
     generalize o.preds[k].2.2=e at d2 he hg
     generalize o.preds[j].2.2=e' at d3 hg
     clear hc2 hc3 hek hej hs1 hs2 he'
     go_wp2
     go_roundw
     case rel=>exact⟨k+1,_,by omega,by go_num,rfl,hD (HNX.out.trans HNY.out),by first | rfl | trivial⟩
     case measure=>simp [intOf];omega
   ·have HNY:Hid (ownStep o n (j:Int) k=(j:Int)):=hD (by unfold ownStep;rw [hek,if_neg (fun h=>he h.1)])
    generalize o.preds[k].2.2=e at d2 he
    clear hc2 hc3 hek hej hs1 hs2 he' d3
    go_wp2
    go_roundw
    case rel=>exact⟨k+1,_,by omega,by go_num,rfl,hD (HNX.out.trans HNY.out),by first | rfl | trivial⟩
    case measure=>simp [intOf];omega
 case neg=>
 obtain rfl:k=o.preds.length:=by omega
 go_wp2
 go_ret
 exact⟨by rw [← HR.out,HY.out];rfl,by rw [HG.out];exact HB0.out⟩
def partsV (o:Ob) (op a:Int):Int:=if op=4 ∨ op=13 then arityF o a else if op=5 ∨ op=14 then 2 else 0
set_option maxHeartbeats 4000000 in
theorem zk5 {o:Ob} {op a b c d:Int} (hi:op=4 ∨ op=13→0≤a∧a<o.funs.length) {va vf vp vc:Value} (w:World) (hv:ObAt w va vf vp vc o) :
  Calls Tryz.prog 70 #[.agg #[va,vf,vp,vc],.agg #[.int .i64 op,.int .i64 a,.int .i64 b,.int .i64 c,.int .i64 d]] w fun e w'=>e=.returned (.int .i64 (partsV o op a))∧Below w.heap.size w w':=by
 obtain⟨A1,c1,rfl⟩:=CellsAt.form hv.atoms
 obtain⟨A2,cf,rfl⟩:=CellsAt.form hv.funs
 obtain⟨A3,cp,rfl⟩:=CellsAt.form hv.preds
 obtain⟨A4,c4,rfl⟩:=CellsAt.form hv.code
 obtain⟨res,hres⟩:∃ res,partsV o op a=res:=⟨_,rfl⟩
 have HR:=hD hres
 rw [hres]
 clear hres
 have HV:=hD hv
 have hb1:=za w (.cells #[.slice A1 o.atoms.length c1,.slice A2 o.funs.length cf,.slice A3 o.preds.length cp,.slice A4 o.code.length c4] 27)
 have hb2:=za (w.alloc (.cells #[.slice A1 o.atoms.length c1,.slice A2 o.funs.length cf,.slice A3 o.preds.length cp,.slice A4 o.code.length c4] 27)) (.cells #[.int .i64 op,.int .i64 a,.int .i64 b,.int .i64 c,.int .i64 d] 54)
 have HB:=hD (hb1.trans (hb2.mono hb1.size))
 clear hb1 hb2
 by_cases h1:op=4 ∨ op=13
 ·obtain⟨ha0,ha1⟩:=hi h1
  obtain⟨k,rfl⟩:∃ k:Nat,a=(k:Int):=⟨a.toNat,by omega⟩
  have hk:k<o.funs.length:=by omega
  obtain⟨bp,of,rfl,hbp,_,hc5⟩:=zy1 HV.out.funs k hk
  have c5:=(HB.out.cell (p:=⟨bp,of+k * 2+1,none⟩) hbp).trans hc5
  have HRR:Hid (o.funs[k].2=res):=hD (by
   rw [← HR.out]
   unfold partsV
   rw [if_pos h1]
   unfold arityF
   rw [Int.toNat_natCast,List.getD_eq_getElem?_getD,List.getElem?_eq_getElem hk]
   rfl)
  generalize o.funs[k].2=ar at c5 HRR
  clear hc5 HR HV
  rcases h1 with rfl | rfl
  ·go_enter Tryz.func70,Tryz.ntmps70
   go_wp2
   go_ret
   exact⟨by rw [← HRR.out];rfl,HB.out⟩
  ·go_enter Tryz.func70,Tryz.ntmps70
   go_wp2
   go_ret
   exact⟨by rw [← HRR.out];rfl,HB.out⟩
 ·have e4:¬ op=4:=fun h=>h1 (.inl h)
  have e13:¬ op=13:=fun h=>h1 (.inr h)
  by_cases h2:op=5 ∨ op=14
  ·have HRR:Hid (2=res):=hD (by
    rw [← HR.out]
    unfold partsV
    rw [if_neg h1,if_pos h2])
   clear HR HV
   rcases h2 with rfl | rfl
   ·go_enter Tryz.func70,Tryz.ntmps70
    go_wp2
    go_ret
    exact⟨by rw [← HRR.out];rfl,HB.out⟩
   ·go_enter Tryz.func70,Tryz.ntmps70
    go_wp2
    go_ret
    exact⟨by rw [← HRR.out];rfl,HB.out⟩
  ·have HRR:Hid (0=res):=hD (by
    rw [← HR.out]
    unfold partsV
    rw [if_neg h1,if_neg h2])
   clear HR HV
   have f4:(op == 4)=false:=beq_eq_false_iff_ne.2 e4
   have f13:(op == 13)=false:=beq_eq_false_iff_ne.2 e13
   have f5:(op == 5)=false:=beq_eq_false_iff_ne.2 (fun h=>h2 (.inl h))
   have f14:(op == 14)=false:=beq_eq_false_iff_ne.2 (fun h=>h2 (.inr h))
   go_enter Tryz.func70,Tryz.ntmps70
   go_wp2
   go_ret
   exact⟨by rw [← HRR.out];rfl,HB.out⟩
/-! Plain words. -/
def asksRD (o:Ob) (ar:Int) (op a b:Int) (s:VSt):Bool:=
 if op=1 then setV s b && mayV s a
 else if op=2 then setV s b && termV s a
 else if op=3 ∨ op=4 then setV s b
 else if op=5 then setV s a
 else if op=10 then mayV s a
 else if op=11 then termV s a
 else if op=15 ∨ op=19 then decide (s.env<0)
 else if op=16 then decide (0≤s.env)
 else if op=17 then decide (0≤s.env) && coverV s (arityP o a)
 else if op=18 then decide (s.env<0) && coverV s (arityP o a)
 else if op=20 then decide (s.env<0) && s.neck && coverV s ar
 else if op=23 then s.neck
 else if op=24 then s.neck && mayV s (16+a)
 else if op=25 then decide (a<s.env) && decide (yAt s a=2)
 else if op=26 then setV s 0
 else true
theorem zw13 {o:Ob} {ar op a b c d:Int} {s:VSt} (h:s.alt≠(decide (op=21) || decide (op=22))):asksV o ar (op,a,b,c,d) s=false:=by unfold asksV;rw [if_pos h]
theorem zf19 {o:Ob} {ar op a b c d:Int} {s:VSt} (hp:partV op=false) (hl:s.left≠0):asksV o ar (op,a,b,c,d) s=false:=by
 unfold asksV
 by_cases h:s.alt≠(decide (op=21) || decide (op=22))
 ·rw [if_pos h]
 ·rw [if_neg h,if_neg (by rw [hp];decide),if_pos hl]
theorem zb5 {o:Ob} {ar op a b c d:Int} {s:VSt} (h:s.alt=(decide (op=21) || decide (op=22))) (hp:partV op=false) (hl:s.left=0):asksV o ar (op,a,b,c,d) s=asksRD o ar op a b s:=by unfold asksV;rw [if_neg (fun x=>x h),if_neg (by rw [hp];decide),if_neg (fun x=>x hl)];rfl
theorem zg19 {o:Ob} {ar op a b c d:Int} {s:VSt} (h:s.alt=(decide (op=21) || decide (op=22))) (hp:partV op=true):asksV o ar (op,a,b,c,d) s=asksPart (op,a,b,c,d) s:=by unfold asksV;rw [if_neg (fun x=>x h),if_pos hp]
/-! What step answers. -/
def StepD (o:Ob) (own:Int) (i:Ins) (s:VSt) (w:World) (e:Ending) (w':World):Prop:=
 ∃ S,StOk S∧e=.returned (.tuple #[.agg (stA S),.bool (asksV o (arityP o own) i s)])∧(asksV o (arityP o own) i s=true→S=makesV o i s)∧Below w.heap.size w w'
theorem StepD.of {o:Ob} {own:Int} {i:Ins} {s:VSt} {w:World} {e:Ending} {w':World} (S:VSt) (h1:StOk S) {C:Array Value} (hC:stA S=C) {q:Bool} (hq:asksV o (arityP o own) i s=q) (h2:e=.returned (.tuple #[.agg C,.bool q])) (h3:asksV o (arityP o own) i s=true→S=makesV o i s) (h4:Below w.heap.size w w'):StepD o own i s w e w':=
 ⟨S,h1,by rw [h2,← hC,hq],h3,h4⟩
/-! Its memory: the object,the instruction,the State,the answer's State. -/
structure SdW (w:World) (g:Nat) (B I A O:Array Value) (W:World):Prop where
 ob:Box W g 27 B
 ins:Box W (g+1) 54 I
 st:Box W (g+1+1) 95 A
 re:Box W (g+1+1+1) 95 O
 below:Below w.heap.size w W
 eq:w.heap.size=g
section
variable {w:World} {g:Nat} {B I A O:Array Value} {W:World}
theorem SdW.start (w:World) (B I A O:Array Value):SdW w w.heap.size B I A O ((((w.alloc (.cells B 27)).alloc (.cells I 54)).alloc (.cells A 95)).alloc (.cells O 95)):=by
 obtain⟨h1,h2,h3,h4⟩:=zw4 w B I A 27 54 95
 have h5:=za (((w.alloc (.cells B 27)).alloc (.cells I 54)).alloc (.cells A 95)) (.cells O 95)
 have h6:=Box.new (((w.alloc (.cells B 27)).alloc (.cells I 54)).alloc (.cells A 95)) 95 O
 have e:(((w.alloc (.cells B 27)).alloc (.cells I 54)).alloc (.cells A 95)).heap.size=w.heap.size+1+1+1:=by simp
 rw [e] at h6
 exact⟨h1.alloc _,h2.alloc _,h3.alloc _,h6,h4.trans (h5.mono h4.size),rfl⟩
theorem SdW.up {W':World} (h:SdW w g B I A O W) (hb:Below W.heap.size W W'):SdW w g B I A O W':=
 ⟨h.ob.below hb h.ob.lt,h.ins.below hb h.ins.lt,h.st.below hb h.st.lt,h.re.below hb h.re.lt,h.below.trans (hb.mono h.below.size),h.eq⟩
theorem SdW.drewN (h:SdW w g B I A O W) (n:Nat):SdW w g B I A O (W.drewN n):=h.up (bel_dn (Below.refl _ _) n)
theorem SdW.set (h:SdW w g B I A O W) (j:Nat) (v:Value):SdW w g B I (A.setIfInBounds j v) O (W.setCell ⟨g+1+1,j,none⟩ v):=
 ⟨h.ob.far (p:=⟨g+1+1,j,none⟩) (by simp;omega) v,h.ins.far (p:=⟨g+1+1,j,none⟩) (by simp) v,h.st.set_ j v,h.re.far (p:=⟨g+1+1,j,none⟩) (by simp) v,h.below.setCell (p:=⟨g+1+1,j,none⟩) (by rw [h.eq];show g≤g+1+1;omega) v,h.eq⟩
theorem SdW.put (h:SdW w g B I A O W) {C:Array Value} (hs:C.size=A.size):SdW w g B I C O (W.setCells (g+1+1) 0 C.toList):=
 ⟨Box.setCells_far (by omega) _ _ _ _ h.ob,Box.setCells_far (by omega) _ _ _ _ h.ins,zw h.st hs,Box.setCells_far (by omega) _ _ _ _ h.re,zg _ _ _ _ h.below (by rw [h.eq];omega),h.eq⟩
theorem SdW.cells (h:SdW w g B I A O W) (j:Nat) (vs:List Value):SdW w g B I (putL A j vs) O (W.setCells (g+1+1) j vs):=
 ⟨Box.setCells_far (by omega) _ _ _ _ h.ob,Box.setCells_far (by omega) _ _ _ _ h.ins,Box.setCells vs W A j h.st,Box.setCells_far (by omega) _ _ _ _ h.re,zg _ _ _ _ h.below (by rw [h.eq];omega),h.eq⟩
theorem SdW.fin (h:SdW w g B I A O W) (hs:A.size=O.size):Box (W.setCells (g+1+1+1) 0 A.toList) (g+1+1+1) 95 A∧Below w.heap.size w (W.setCells (g+1+1+1) 0 A.toList):=
 ⟨zw h.re hs,zg _ _ _ _ h.below (by rw [h.eq];omega)⟩
end
theorem zh10 {fn:Func} {p u:Tmp} (h:fn.results=#[.cell p 95,.tmp u]) (tmps:Array Value) (w:World) (g:Nat) (A:Array Value)
  (hp:tmps.getD p undef=.pointer (some ⟨g,0,none⟩)) (hb:Box w g 95 A) (hs:A.size=21):(results fn tmps).run Tryz.prog w=.ok (.tuple #[.agg A,tmps.getD u undef]) w:=by
 obtain⟨d,hd,hd'⟩:=zh13 zb2
 rw [results_cell_tmp h,hp]
 simp [asAddr,run_loadVar_row w g 95 95 A (0,0) d hb hd (by cases d <;> first | rfl | exact absurd hd' Bool.false_ne_true) (by rw [hs];exact zg1)]
theorem zm {t:TypeId} {N:Nat} (hr:(Tryz.prog.underlying t).map TypeDesc.isRow=some true) (hz:(Tryz.prog.info? t).map (·.size)=some N) {ops:Array Oper} {rest:List Oper} {op:Oper} {a:Act} {w:World} {Q:Exit→Act→World→Prop} (hgd:op.guard=none) (x:Operand) (ho:op.op=.load t x)
  (g o:Nat) (hx:a.eval x=.pointer (some ⟨g,o,none⟩)) (A:Array Value) (hb:w.rangeAt g o A.toList) (hs:A.size=N)
  (h:wpList Tryz.prog ops Q rest (a.put op.dst (.agg A)) w):wpList Tryz.prog ops Q (op :: rest) a w:=
 zu hr hz (by simp only [Region.wanted,hgd]) x ho g o hx A hb hs h
theorem zp {P:Program} {ops:Array Oper} {o:Oper} {a:Act} {w:World} {K:Act→World→Prop} {Q:Exit→Act→World→Prop} {E:Prop} {f:FuncId} {ts:Array TypeId} {vs:Array Value}
  (hw:Region.wanted o (yielded ops a.tmps)=true) (hen:∀ args w,(callFunc f args).run P w=.ok (.enter f args) w) (xs:Array Operand) (ho:o.op=.call { callee:=.value (.func f),args:=xs,argTypes:=ts })
  (hx:xs.map a.eval=vs) (h:Calls P f vs w fun e w'=>∃ v,e=.returned v∧K (a.put o.dst v) w') :
  if Region.wanted o (yielded ops a.tmps)=true then Oper.wp P o a w K Q else E:=by
 rw [if_pos hw]
 unfold Oper.wp execOp
 simp only [ho,resolve,invoke,Act.eval,Deferred.ofValue,Sem.run_bind,Sem.run_pure,Result.andThen_ok,hen]
 rw [Oper.upon_enter,hx]
 simp only [Array.empty_append,Array.append_empty]
 exact h.mono fun e w' ⟨v,he,hk⟩=>by subst he;exact hk
theorem zl1 {t:TypeId} {N:Nat} (hr:(Tryz.prog.underlying t).map TypeDesc.isRow=some true) (hz:(Tryz.prog.info? t).map (·.size)=some N) {ops:Array Oper} {S:World→Prop} {oi:Oper} {a:Act} (hw:Region.wanted oi (yielded ops a.tmps)=true) (x:Operand) (ho:oi.op=.load t x)
  (b o:Nat) (hx:a.eval x=.pointer (some ⟨b,o,none⟩)) (A:Array Value) (hA:A.size=N) (hS:∀ w,S w→w.rangeAt b o A.toList):YieldsIf Tryz.prog ops S oi (.agg A) a:=by
 obtain⟨d,hd,hd'⟩:=zh13 hr
 have h:=yieldsIf_load_mid (P:=Tryz.prog) hw t x ho b o hx A.toList d hS hd hd' (by rw [Array.length_toList,hA];exact hz)
 rwa [Array.toArray_toList] at h
/-! Short laws of it. -/
section
variable {w:World} {g:Nat} {B I A O C:Array Value} {W:World}
theorem SdW.rl (h:SdW w g B I A O W):W.cell? ⟨g+1,0,none⟩=I[0]?∧W.cell? ⟨g+1,1,none⟩=I[1]?∧W.cell? ⟨g+1,2,none⟩=I[2]?∧W.cell? ⟨g+1,3,none⟩=I[3]?∧W.cell? ⟨g+1,4,none⟩=I[4]?∧W.cell? ⟨g,0,none⟩=B[0]?∧W.cell? ⟨g,1,none⟩=B[1]?∧W.cell? ⟨g,2,none⟩=B[2]?∧W.cell? ⟨g,3,none⟩=B[3]?:=
 ⟨h.ins.cell 0,h.ins.cell 1,h.ins.cell 2,h.ins.cell 3,h.ins.cell 4,h.ob.cell 0,h.ob.cell 1,h.ob.cell 2,h.ob.cell 3⟩
theorem SdW.xl {s:VSt} (h:SdW w g B I (stA s) O W) (hs:StOk s):W.cell? ⟨g+1+1,0,none⟩=some (.int .u32 (s.x:Int))∧W.cell? ⟨g+1+1,1,none⟩=some (.int .i64 s.env)∧W.cell? ⟨g+1+1,18,none⟩=some (.int .i64 s.left)∧W.cell? ⟨g+1+1,19,none⟩=some (.bool s.alt)∧W.cell? ⟨g+1+1,20,none⟩=some (.bool s.neck):=
 ⟨(h.st.cell 0).trans (stA_x s),(h.st.cell 1).trans (zs2 s),(h.st.cell 18).trans (zh1 hs),(h.st.cell 19).trans (ze3 hs),(h.st.cell 20).trans (zy2 hs)⟩
theorem upS {W':World} (h:Hid (SdW w g B I A O W)) (hb:Below W.heap.size W W'):Hid (SdW w g B I A O W'):=hD (h.out.up hb)
theorem genS {S:VSt} (h:Hid (StOk S)):∃ C,Hid (stA S=C)∧Hid (C.size=21)∧Hid (C.all (·.oneCell')=true):=⟨_,hD rfl,hD (zh h.out),hD (zu1 S)⟩
section
variable {ops:Array Oper} {rest:List Oper} {op:Oper} {a:Act} {Q:Exit→Act→World→Prop}
theorem ldS (hS:Hid (SdW w g B I A O W)) (hz:Hid (A.size=21)) (hgd:op.guard=none) (x:Operand) (ho:op.op=.load 95 x) (hx:a.eval x=.pointer (some ⟨g+1+1,0,none⟩)) (h:wpList Tryz.prog ops Q rest (a.put op.dst (.agg A)) W):wpList Tryz.prog ops Q (op :: rest) a W:=
 zm zb2 zg1 hgd x ho (g+1+1) 0 hx A (zj hS.out.st) hz.out h
theorem ldSW (hS:Hid (SdW w g B I A O W)) (hz:Hid (A.size=21)) (hw:Region.wanted op (yielded ops a.tmps)=true) (x:Operand) (ho:op.op=.load 95 x) (hx:a.eval x=.pointer (some ⟨g+1+1,0,none⟩)) (h:wpList Tryz.prog ops Q rest (a.put op.dst (.agg A)) W):wpList Tryz.prog ops Q (op :: rest) a W:=
 zu zb2 zg1 hw x ho (g+1+1) 0 hx A (zj hS.out.st) hz.out h
theorem stS (hS:Hid (SdW w g B I A O W)) (hO:Hid (O.size=21)) (hz:Hid (A.size=21)) (h1:Hid (A.all (·.oneCell')=true)) (hgd:op.guard=none) (x y:Operand) (ho:op.op=.store 95 x y) (hx:a.eval x=.pointer (some ⟨g+1+1+1,0,none⟩)) (hy:a.eval y=.agg A) (h:wpList Tryz.prog ops Q rest (a.put op.dst undef) (W.setCells (g+1+1+1) 0 A.toList)):wpList Tryz.prog ops Q (op :: rest) a W:=
 ze zg1 hgd x y ho (g+1+1+1) 0 A hx hy (zr hS.out.re (by rw [hO.out];decide)) hz.out h1.out h
theorem stB (hS:Hid (SdW w g B I A O W)) (hA:Hid (A.size=21)) (hz:Hid (C.size=21)) (h1:Hid (C.all (·.oneCell')=true)) (hgd:op.guard=none) (x y:Operand) (ho:op.op=.store 95 x y) (hx:a.eval x=.pointer (some ⟨g+1+1,0,none⟩)) (hy:a.eval y=.agg C) (h:wpList Tryz.prog ops Q rest (a.put op.dst undef) (W.setCells (g+1+1) 0 C.toList)):wpList Tryz.prog ops Q (op :: rest) a W:=
 ze zg1 hgd x y ho (g+1+1) 0 C hx hy (zr hS.out.st (by rw [hA.out];decide)) hz.out h1.out h
end
section
variable {o:Ob} {own:Int} {i:Ins} {s S:VSt} {q:Bool} {fn:Func} {p u:Tmp} {a:Act}
theorem finD (hS:Hid (SdW w g B I C O W)) (hO:Hid (O.size=21)) (hz:Hid (C.size=21)) (h1:Hid (StOk S)) (hC:Hid (stA S=C)) (hq:Hid (asksV o (arityP o own) i s=q)) (hr:fn.results=#[.cell p 95,.tmp u]) (hp:a.tmps.getD p undef=.pointer (some ⟨g+1+1+1,0,none⟩)) (hu:a.tmps.getD u undef=.bool q) (hd:a.defers=[]) (h3:asksV o (arityP o own) i s=true→S=makesV o i s):bodyPost Tryz.prog fn (StepD o own i s w) .ret a (W.setCells (g+1+1+1) 0 C.toList):=
 bodyPost_ret (zh10 hr _ _ (g+1+1+1) C hp (hS.out.fin (hz.out.trans hO.out.symm)).1 hz.out) hd (StepD.of S h1.out hC.out hq.out (by rw [hu]) h3 (hS.out.fin (hz.out.trans hO.out.symm)).2)
theorem finN (hS:Hid (SdW w g B I C O W)) (hO:Hid (O.size=21)) (hz:Hid (C.size=21)) (h1:Hid (StOk S)) (hC:Hid (stA S=C)) (hq:Hid (asksV o (arityP o own) i s=false)) (hr:fn.results=#[.cell p 95,.tmp u]) (hp:a.tmps.getD p undef=.pointer (some ⟨g+1+1+1,0,none⟩)) (hu:a.tmps.getD u undef=.bool false) (hd:a.defers=[]):bodyPost Tryz.prog fn (StepD o own i s w) .ret a (W.setCells (g+1+1+1) 0 C.toList):=
 finD hS hO hz h1 hC hq hr hp hu hd fun h=>absurd (hq.out.symm.trans h) Bool.false_ne_true
end
end
theorem HRt {o:Ob} {ar:Int} {i:Ins} {s:VSt} {p q:Bool} (h:Hid (asksV o ar i s=p)) (e:p=q):Hid (asksV o ar i s=q):=hD (h.out.trans e)
theorem nat16 {a:Int} (h:0≤a∧a<16):∃ k:Nat,a=k∧k<16:=⟨a.toNat,by omega,by omega⟩
theorem reg32 {a:Int} (h:0≤a∧a<32):0≤a∧a<32:=h
theorem zi11 {o:Ob} (ho:ObK o) (a:Int) (h0:0≤a) (h1:a<(o.funs.length:Int)):0<arityF o a:=by
 have hk:a.toNat<o.funs.length:=by omega
 unfold arityF
 rw [List.getD_eq_getElem?_getD,List.getElem?_eq_getElem hk]
 have:=ho.fun_ _ (List.getElem_mem hk)
 show 0<o.funs[a.toNat].2
 omega
def zero16D:Array Value:=#[.int .i64 0,.int .i64 0,.int .i64 0,.int .i64 0,.int .i64 0,.int .i64 0,.int .i64 0,.int .i64 0,.int .i64 0,.int .i64 0,.int .i64 0,.int .i64 0,.int .i64 0,.int .i64 0,.int .i64 0,.int .i64 0]
theorem zo17:zero16D.all (·.oneCell')=true:=Array.all_eq_true_iff_forall_mem.2 fun v hv=>by
 simp [zero16D] at hv
 subst hv
 rfl
theorem zy15:(Tryz.prog.info? 56).map (·.size)=some zero16D.size:=by kernel_rfl
theorem put_zeroD {s:VSt} (hs:StOk s):putL (stA s) 2 zero16D.toList=stA { s with y:=yZero }:=by
 obtain⟨x,env,y,left,alt,neck⟩:=s
 obtain⟨y0,y1,y2,y3,y4,y5,y6,y7,y8,y9,y10,y11,y12,y13,y14,y15,rfl⟩:=zm1 y hs.y
 simp [putL,zero16D,stA,yZero,List.replicate]
end Go.Proofs.YtlmbiafloiompaaGreatDoor

namespace Go.Proofs.YtlmbiafloiompaaGreatDoor
open Go
section
variable {P:Program} {ops:Array Oper} {Q:Exit→Act→World→Prop} {md:Region.Mode} {S:World→Prop} {n:Nat}
def wpAnyT (P:Program) (md:Region.Mode) (ops:Array Oper) (Q:Exit→Act→World→Prop) (S:World→Prop) (n:Nat):Nat→Array Bool→Act→World→Prop
 | 0,L,a,w=>Region.ready md ops L=[]∧Q .normal a w
 | f+1,L,a,w=>(Region.ready md ops L=[]→Q .normal a w)∧∀ i ∈ Region.ready md ops L,wpOp P ops Q i (fun a' w'=>(i<n→S w→S w')∧wpAnyT P md ops Q S n f (L.setIfInBounds i true) a' w') a w
theorem zq12:∀ (f:Nat) (L:Array Bool) (a:Act) (w:World),wpAnyT P md ops Q S n f L a w→wpAny P md ops Q f L a w
 | 0,_,_,_,h=>h
 | f+1,_,_,_,h=>⟨h.1,fun i hi=>wpOp_mono (fun a' w' k=>zq12 f _ a' w' k.2) (h.2 i hi)⟩
theorem zn8 {T:World→Prop} {i:Nat} {oi:Oper} {v:Value} (hi:ops[i]?=some oi) (hs:Region.noSelect ops=true) (hQ:∀ c a w,Q (.panic c) (a.put oi.dst v) w→Q (.panic c) a w)
  (hT:∀ j (L:Array Bool) (w w':World),L.getD i true=false→j ∈ Region.ready md ops L→(j<n→S w→S w')→T w→T w') :
  ∀ (f:Nat) (L:Array Bool) (a:Act) (w:World),(∀ j oj,ops[j]?=some oj→j≠i→L.getD j true=false→(∀ e ∈ oj.after,Region.binds md e=true→e.on≠i)→oi.apart ops oj=true) →
   i ∈ Region.ready md ops L→YieldsIf P ops T oi v a→T w→wpAnyT P md ops Q S n f (L.setIfInBounds i true) (a.put oi.dst v) w→wpAnyT P md ops Q S n (f+1) L a w:=by
 intro f
 induction f with
 | zero=>
  intro L a w hap hr hy hw H
  have hne:Region.ready md ops L≠[]:=fun e=>by rw [e] at hr;cases hr
  refine⟨fun e=>absurd e hne,fun j hj=>?_⟩
  by_cases e:j=i
  ·rw [e]
   exact hy.wpOp hi hw ⟨fun _ x=>x,H⟩
  ·have h0:=ready_mono hj e
   rw [H.1] at h0
   cases h0
 | succ f ih=>
  intro L a w hap hr hy hw H
  have hne:Region.ready md ops L≠[]:=fun e=>by rw [e] at hr;cases hr
  have hun:=(mem_ready.1 hr).1
  refine⟨fun e=>absurd e hne,fun j hj=>?_⟩
  by_cases e:j=i
  ·rw [e]
   exact hy.wpOp hi hw ⟨fun _ x=>x,H⟩
  ·obtain⟨hj0,oj,hoj,hall⟩:=mem_ready.1 hj
   have hno:∀ e ∈ oj.after,Region.binds md e=true→e.on≠i:=fun e he hb h0=>by
    have h1:=hall e he hb
    rw [h0,getD_both hun] at h1
    cases h1
   have h2:=wpOp_putIf hoj (hap j oj hoj e hj0 hno) (fun cs b=>Region.noSelect_spec hs i oi cs b hi) (fun cs b=>Region.noSelect_spec hs j oj cs b hoj) hQ hy (H.2 j (ready_mono hj e))
   refine wpOp_mono (fun a' w' k=>⟨k.2.1,ih (L.setIfInBounds j true) a' w' (fun m om hm hmi hmu hmn=>hap m om hm hmi ?_ hmn) (ready_mono hr (Ne.symm e)) k.1 (hT j L w w' hun hj k.2.1 hw) ?_⟩) h2
   ·by_cases hjm:j=m
    ·rw [← hjm];exact hj0
    ·rw [getD_set_ne true hjm] at hmu;exact hmu
   ·rw [Array.setIfInBounds_comm _ _ e]
    exact k.2.2
def waitsB (md:Region.Mode) (ops:Array Oper) (n i:Nat):Bool:=(List.range ops.size).all fun j=>decide (j<n) || Region.waitsFor md ops j i
theorem waitsB_lt {i j:Nat} {L:Array Bool} (h:waitsB md ops n i=true) (hun:L.getD i true=false) (hj:j ∈ Region.ready md ops L):j<n:=by
 obtain⟨_,oj,hoj,hall⟩:=mem_ready.1 hj
 have h1:=List.all_eq_true.1 h j (List.mem_range.2 (Array.getElem?_eq_some_iff.1 hoj).1)
 simp only [Bool.or_eq_true,decide_eq_true_eq] at h1
 rcases h1 with h1 | h1
 ·exact h1
 ·obtain⟨o',ho',e,he,hb,hon⟩:=Region.waitsFor_spec h1
  have:o'=oj:=Option.some.inj (ho'.symm.trans hoj)
  subst this
  have h2:=hall e he hb
  rw [hon,getD_both hun] at h2
  cases h2
theorem tkS {i:Nat} {oi:Oper} {v:Value} {f:Nat} {L:Array Bool} {a:Act} {w:World} (hi:ops[i]?=some oi) (hQ:∀ c a w,Q (.panic c) (a.put oi.dst v) w→Q (.panic c) a w) (hy:YieldsIf P ops S oi v a) (hS:S w)
  (h:wpAnyT P md ops Q S n f (L.setIfInBounds i true) (a.put oi.dst v) w) (hs:Region.noSelect ops=true:=by kernel_rfl) (hf:Region.free md ops L i=true:=by kernel_rfl) (hr:(Region.ready md ops L).contains i=true:=by kernel_rfl) (hw:waitsB md ops n i=true:=by kernel_rfl):wpAnyT P md ops Q S n (f+1) L a w:=
 zn8 hi hs hQ (fun j L w w' hun hj hk hT=>hk (waitsB_lt hw hun hj) hT) f L a w (Region.free_spec hi hf) (by simpa using hr) hy hS h
def Stp (_:List Nat):Prop:=True
theorem Stp.tl {i:Nat} {l:List Nat} (_:Stp (i :: l)):Stp l:=trivial
theorem tkL {i:Nat} {l:List Nat} {oi:Oper} {v:Value} {f:Nat} {L:Array Bool} {a:Act} {w:World} (_:Stp (i :: l)) (hi:ops[i]?=some oi) (hQ:∀ c a w,Q (.panic c) (a.put oi.dst v) w→Q (.panic c) a w) (hy:YieldsIf P ops S oi v a) (hS:S w)
  (h:wpAnyT P md ops Q S n f (L.setIfInBounds i true) (a.put oi.dst v) w) (hs:Region.noSelect ops=true:=by kernel_rfl) (hf:Region.free md ops L i=true:=by kernel_rfl) (hr:(Region.ready md ops L).contains i=true:=by kernel_rfl) (hw:waitsB md ops n i=true:=by kernel_rfl):wpAnyT P md ops Q S n (f+1) L a w:=
 tkS hi hQ hy hS h hs hf hr hw
theorem tkP {i:Nat} {oi:Oper} {v:Value} {f:Nat} {L:Array Bool} {a:Act} {w:World} (hi:ops[i]?=some oi) (hQ:∀ c a w,Q (.panic c) (a.put oi.dst v) w→Q (.panic c) a w) (hy:YieldsIf P ops (fun _=>True) oi v a)
  (h:wpAnyT P md ops Q S n f (L.setIfInBounds i true) (a.put oi.dst v) w) (hs:Region.noSelect ops=true:=by kernel_rfl) (hf:Region.free md ops L i=true:=by kernel_rfl) (hr:(Region.ready md ops L).contains i=true:=by kernel_rfl):wpAnyT P md ops Q S n (f+1) L a w:=
 zn8 hi hs hQ (fun _ _ _ _ _ _ _ _=>trivial) f L a w (Region.free_spec hi hf) (by simpa using hr) hy trivial h
def AllT (P:Program) (md:Region.Mode) (ops:Array Oper) (Q:Exit→Act→World→Prop) (S:World→Prop) (n f:Nat) (L:Array Bool) (a:Act) (w:World) (rs:List Nat):Prop:=
 ∀ i ∈ rs,wpOp P ops Q i (fun a' w'=>(i<n→S w→S w')∧wpAnyT P md ops Q S n f (L.setIfInBounds i true) a' w') a w
theorem AllT.nil {f:Nat} {L:Array Bool} {a:Act} {w:World}:AllT P md ops Q S n f L a w []:=fun _ h=>by cases h
theorem AllT.cons {f:Nat} {L:Array Bool} {a:Act} {w:World} {i:Nat} {o:Oper} {rs:List Nat} (ho:ops[i]?=some o)
  (h:∀ K':Act→World→Prop,Shut (∀ a w',(i<n→S w')→((i<n→S w')→wpAnyT P md ops Q S n f (L.setIfInBounds i true) a w')→K' a w')→if Region.wanted o (yielded ops a.tmps)=true then Oper.wp P o a w K' Q else K' (a.put o.dst undef) w)
  (hs:AllT P md ops Q S n f L a w rs):AllT P md ops Q S n f L a w (i :: rs):=fun j hj=>by
 rcases List.mem_cons.1 hj with rfl | hj
 ·exact wpOp_step ho (fun K' hK=>h K' (fun a w' hS hW=>hK a w' ⟨fun hn _=>hS hn,hW hS⟩))
 ·exact hs j hj
theorem zt3 {rs:List Nat} {f:Nat} {L:Array Bool} {a:Act} {w:World} (hr:Region.ready md ops L=rs) (hne:rs≠[]) (h:AllT P md ops Q S n f L a w rs):wpAnyT P md ops Q S n (f+1) L a w:=
 ⟨fun e=>absurd (hr ▸ e) hne,hr ▸ h⟩
theorem zn {L:Array Bool} {a:Act} {w:World} (hr:Region.ready md ops L=[]) (h:Q .normal a w):∀ f,wpAnyT P md ops Q S n f L a w
 | 0=>⟨hr,h⟩
 | _+1=>⟨fun _=>h,by rw [hr];simp⟩
theorem zt {id:Nat} {a:Act} {w:World} (n:Nat) (S:World→Prop) (hm:P.follows .mixedOrders=true) (hS:S w.drew) (h:S w.drew→wpAnyT P .any ops Q S n ops.size (Array.replicate ops.size false) a w.drew):(Code.region id ops true).wp P Q a w:=
 wp_region_any hm (zq12 _ _ _ _ (h hS))
end
section
variable {P:Program} {ops:Array Oper} {Q:Exit→Act→World→Prop} {md:Region.Mode} {S:World→Prop} {n:Nat}
theorem tP {i:Nat} {oi:Oper} {v:Value} {f:Nat} {L:Array Bool} {a:Act} {w:World} (hi:ops[i]?=some oi) (hy:∀ w,True→(execOp a.eval oi).run P w=.ok (.value v) w)
  (h:wpAnyT P md ops Q S n f (L.setIfInBounds i true) (a.put oi.dst v) w) (hw:Region.wanted oi (yielded ops a.tmps)=true:=by kernel_rfl) (hQ:∀ c a w,Q (.panic c) (a.put oi.dst v) w→Q (.panic c) a w:=by exact fun _ _ _ h=>h) (hs:Region.noSelect ops=true:=by kernel_rfl) (hf:Region.free md ops L i=true:=by kernel_rfl) (hr:(Region.ready md ops L).contains i=true:=by kernel_rfl):wpAnyT P md ops Q S n (f+1) L a w:=
 tkP hi hQ (Or.inl ⟨hw,hy⟩) h hs hf hr
theorem tS {i:Nat} {oi:Oper} {v:Value} {f:Nat} {L:Array Bool} {a:Act} {w:World} (hi:ops[i]?=some oi) (hy:∀ w,S w→(execOp a.eval oi).run P w=.ok (.value v) w) (hS:S w)
  (h:wpAnyT P md ops Q S n f (L.setIfInBounds i true) (a.put oi.dst v) w) (hw:Region.wanted oi (yielded ops a.tmps)=true:=by kernel_rfl) (hQ:∀ c a w,Q (.panic c) (a.put oi.dst v) w→Q (.panic c) a w:=by exact fun _ _ _ h=>h) (hs:Region.noSelect ops=true:=by kernel_rfl) (hf:Region.free md ops L i=true:=by kernel_rfl) (hr:(Region.ready md ops L).contains i=true:=by kernel_rfl) (hb:waitsB md ops n i=true:=by kernel_rfl):wpAnyT P md ops Q S n (f+1) L a w:=
 tkS hi hQ (Or.inl ⟨hw,hy⟩) hS h hs hf hr hb
end
section
variable {P:Program} {ops:Array Oper} {Q:Exit→Act→World→Prop} {md:Region.Mode} {S:World→Prop} {n i f:Nat} {L:Array Bool} {a:Act} {w:World}
theorem tPL {l:List Nat} {oi:Oper} {v:Value} (_:Stp (i :: l)) (hi:ops[i]?=some oi) (hy:∀ w,True→(execOp a.eval oi).run P w=.ok (.value v) w) (h:wpAnyT P md ops Q S n f (L.setIfInBounds i true) (a.put oi.dst v) w) (hw:Region.wanted oi (yielded ops a.tmps)=true:=by kernel_rfl) (hQ:∀ c a w,Q (.panic c) (a.put oi.dst v) w→Q (.panic c) a w:=by exact fun _ _ _ h=>h) (hs:Region.noSelect ops=true:=by kernel_rfl) (hf:Region.free md ops L i=true:=by kernel_rfl) (hr:(Region.ready md ops L).contains i=true:=by kernel_rfl):wpAnyT P md ops Q S n (f+1) L a w:=
  tkP hi hQ (Or.inl ⟨hw,hy⟩) h hs hf hr
theorem tSL {l:List Nat} {oi:Oper} {v:Value} (_:Stp (i :: l)) (hi:ops[i]?=some oi) (hy:∀ w,S w→(execOp a.eval oi).run P w=.ok (.value v) w) (hS:S w) (h:wpAnyT P md ops Q S n f (L.setIfInBounds i true) (a.put oi.dst v) w) (hw:Region.wanted oi (yielded ops a.tmps)=true:=by kernel_rfl) (hQ:∀ c a w,Q (.panic c) (a.put oi.dst v) w→Q (.panic c) a w:=by exact fun _ _ _ h=>h) (hs:Region.noSelect ops=true:=by kernel_rfl) (hf:Region.free md ops L i=true:=by kernel_rfl) (hr:(Region.ready md ops L).contains i=true:=by kernel_rfl) (hb:waitsB md ops n i=true:=by kernel_rfl):wpAnyT P md ops Q S n (f+1) L a w:=
  tkS hi hQ (Or.inl ⟨hw,hy⟩) hS h hs hf hr hb
theorem wT1 {o:Oper} (hr:Region.ready md ops L=[i]) (ho:ops[i]?=some o) (h:∀ K':Act→World→Prop,Shut (∀ a w',(i<n→S w')→((i<n→S w')→wpAnyT P md ops Q S n f (L.setIfInBounds i true) a w')→K' a w')→if Region.wanted o (yielded ops a.tmps)=true then Oper.wp P o a w K' Q else K' (a.put o.dst undef) w):wpAnyT P md ops Q S n (f+1) L a w:=
  zt3 hr (by simp) (AllT.cons ho h AllT.nil)
end

end Go.Proofs.YtlmbiafloiompaaGreatDoor
