/-
  2 texts in one (VerY VerFA). Conditions: those of each theorem.
-/
import Derived.Test.YtlmbiafloiompaaGreatDoorJO10
import Derived.Test.YtlmbiafloiompaaGreatDoorJO02
import Derived.Test.YtlmbiafloiompaaGreatDoorJO18
set_option linter.unusedVariables false
set_option linter.unusedSimpArgs false
namespace Go.Proofs.YtlmbiafloiompaaGreatDoor
open Go Go.RowKit
set_option maxRecDepth 100000
theorem slSpan:SlT 125 128 3 24:=⟨Tryz.underlying125,⟨.agg #[.int .i64 0,.int .i64 0,.int .i64 0],by kernel_rfl,rfl⟩,by decide,by decide⟩
def SortOk:Prop:=∀ (base g cap:Nat) (l:List (Int × Int × Int)) (w:World),w.ownsRow base 128 3 (.slice (some ⟨g,0,none⟩) l.length cap) l.length (l.flatMap spC)→l.length≤1000 →
 Calls Tryz.prog 90 #[.slice (some ⟨g,0,none⟩) l.length cap,.func (.func 91) #[] #[]] w fun e w'=>e=.returned (.tuple #[]) ∧
  ∃ l':List (Int × Int × Int),l'.Perm l∧l'.Pairwise (fun a b=>a.2.1≤b.2.1)∧w'.ownsRow base 128 3 (.slice (some ⟨g,0,none⟩) l.length cap) l.length (l'.flatMap spC)∧Fr (fun k=>k=g) w w'
def SortNil:Prop:=∀ w:World,Calls Tryz.prog 90 #[.slice none 0 0,.func (.func 91) #[] #[]] w fun e w'=>e=.returned (.tuple #[])∧w'=w
def rowS (n:Nat) (L:List (ByteArray × Int × Int)) (j:Nat):List (Int × Int × Int):=(L.take j).map spZ ++ (spansOf n L).drop j
theorem rowS_len (n:Nat) (L:List (ByteArray × Int × Int)) (j:Nat) (h:j≤L.length):(rowS n L j).length=L.length:=by
 unfold rowS
 rw [List.length_append,List.length_map,List.length_take,List.length_drop,zo10]
 omega
theorem rowS_all (n:Nat) (L:List (ByteArray × Int × Int)):rowS n L L.length=L.map spZ:=by
 unfold rowS
 rw [List.take_length,List.drop_eq_nil_of_le (by rw [zo10];exact Nat.le_refl _),List.append_nil]
theorem rowS_at (n:Nat) (L:List (ByteArray × Int × Int)) (m:Nat) (h:m<L.length):(rowS n L (m+1))[m]?=some (L[m].2.1,L[m].2.2,0):=by
 unfold rowS
 rw [List.getElem?_append_left (by rw [List.length_map,List.length_take];omega),List.getElem?_map,List.getElem?_take_of_lt (by omega),List.getElem?_eq_getElem h]
 rfl
theorem rowS_step (n:Nat) (L:List (ByteArray × Int × Int)) (m:Nat) (h:m<L.length):rowS n L m=(rowS n L (m+1)).set m (L[m].2.1,L[m].2.2,nextEnt n (L.drop (m+1))):=by
 apply List.ext_getElem?
 intro j
 rw [List.getElem?_set]
 have hl:=rowS_len n L (m+1) (by omega)
 by_cases e:m=j
 ·subst e
  rw [if_pos rfl,if_pos (by rw [hl];exact h)]
  unfold rowS
  rw [List.getElem?_append_right (by rw [List.length_map,List.length_take];omega),List.length_map,List.length_take,List.getElem?_drop,show m+(m - min m L.length)=m by omega,zp13 n L m h]
 ·rw [if_neg e]
  unfold rowS
  by_cases hj:j<m
  ·rw [List.getElem?_append_left (by rw [List.length_map,List.length_take];omega),List.getElem?_append_left (by rw [List.length_map,List.length_take];omega),List.getElem?_map,List.getElem?_map,List.getElem?_take_of_lt (by omega),List.getElem?_take_of_lt (by omega)]
  ·rw [List.getElem?_append_right (by rw [List.length_map,List.length_take];omega),List.getElem?_append_right (by rw [List.length_map,List.length_take];omega),List.length_map,List.length_map,List.length_take,List.length_take,List.getElem?_drop,List.getElem?_drop,show m+(j - min m L.length)=j by omega,show m+1+(j - min (m+1) L.length)=j by omega]
theorem zj14:∀ (l:List (Int × Int × Int)) (m:Nat) (a b c x:Int),l[m]?=some (a,b,c)→(l.flatMap spC).set (m * 3+2) (.int .i64 x)=(l.set m (a,b,x)).flatMap spC
 | [],m,a,b,c,x,h=>by simp at h
 | p :: l,0,a,b,c,x,h=>by
  obtain rfl:p=(a,b,c):=by simpa using h
  simp [spC]
 | p :: l,m+1,a,b,c,x,h=>by
  have h':l[m]?=some (a,b,c):=by simpa using h
  rw [List.set_cons_succ,List.flatMap_cons,List.flatMap_cons,← zj14 l m a b c x h',List.set_append_right _ _ (by simp [spC];omega)]
  congr 2
  simp [spC]
  omega
theorem ze21 {l:List (ByteArray × Int × Int)} (hp:l.Pairwise (fun p q=>p.2.2≤q.2.2)) (hn:(l.map (·.2.2)).Nodup):l.Pairwise (fun p q=>p.2.2<q.2.2):=by
 rw [List.nodup_iff_pairwise_ne,List.pairwise_map] at hn
 exact(hp.and hn).imp (fun⟨h1,h2⟩=>by omega)
set_option maxHeartbeats 16000000 in
theorem spans_any (HS:SortOk) (HN:SortNil) {o:Ob} (hnd:(o.preds.map (·.2.2)).Nodup) (hlp:o.preds.length≤64) (hlc:o.code.length≤1024) {va vf vp vc:Value} {w:World} (hv:ObAt w va vf vp vc o) :
  Calls Tryz.prog 52 #[.agg #[va,vf,vp,vc]] w fun e w'=>∃ v L,e=.returned v∧L.Perm o.preds∧L.Pairwise (fun p q=>p.2.2<q.2.2)∧w'.ownsRow w.heap.size 128 3 v L.length ((spansOf o.code.length L).flatMap spC)∧Below w.heap.size w w':=by
 obtain⟨A1,c1,rfl⟩:=CellsAt.form hv.atoms
 obtain⟨A2,cf,rfl⟩:=CellsAt.form hv.funs
 obtain⟨A3,cp,rfl⟩:=CellsAt.form hv.preds
 obtain⟨A4,cc,rfl⟩:=CellsAt.form hv.code
 have HV:=hD hv.preds
 have HSO:=hD HS
 have HSN:=hD HN
 have HND:=hD hnd
 clear hv HS HN hnd
 have HB:=hD (za w (.cells #[.slice A1 o.atoms.length c1,.slice A2 o.funs.length cf,.slice A3 o.preds.length cp,.slice A4 o.code.length cc] 35))
 have HX:=hD (Box.new w 35 #[.slice A1 o.atoms.length c1,.slice A2 o.funs.length cf,.slice A3 o.preds.length cp,.slice A4 o.code.length cc])
 obtain⟨g,hg⟩:∃ g,w.heap.size=g:=⟨_,rfl⟩
 go_enter Tryz.func52,Tryz.ntmps52
 go_upto_region 2 with(fail)
 rw [hg] at HX
 obtain⟨w1,hw1⟩:∃ w1,w.alloc (.cells #[.slice A1 o.atoms.length c1,.slice A2 o.funs.length cf,.slice A3 o.preds.length cp,.slice A4 o.code.length cc] 35)=w1:=⟨_,rfl⟩
 rw [hw1] at HB HX ⊢
 clear hw1
 have HG:=hD HB.out.size
 have x1:=HX.out.cell 2
 go_wp2
 clear x1
 have F0:=hD (Below.refl w1.heap.size w1)
 have O0:Hid (w1.ownsRow w1.heap.size 128 3 (.slice none 0 0) 0 (((o.preds.take 0).map spZ).flatMap spC)):=hD ⟨rfl,.inl ⟨rfl,rfl⟩⟩
 go_loopw [3,5,11] (fun s _ i wr=>∃ (k:Nat) (vs:Value),k≤o.preds.length∧i=.int .i64 k∧vs=s∧Hid (wr.ownsRow w1.heap.size 128 3 vs k (((o.preds.take k).map spZ).flatMap spC))∧Hid (Below w1.heap.size w1 wr)) (fun _ _ i _=>o.preds.length - (intOf i).toNat)
 case atStart=>exact⟨0,_,by omega,rfl,rfl,O0,F0⟩
 obtain⟨k,vs,hk,rfl,rfl,HO,HF⟩:=hrel
 clear F0 O0
 by_cases hlt:k<o.preds.length
 case pos=>
  obtain⟨b,off,rfl,hb,hc0,hc1,hc2⟩:=zd1 HV.out k hlt
  have HBW:=hD (HB.out.trans (HF.out.mono HG.out))
  have d0:=(HBW.out.cell (p:=⟨b,off+k * 3,none⟩) hb).trans hc0
  have d1:=(HBW.out.cell (p:=⟨b,off+k * 3+1,none⟩) hb).trans hc1
  have d2:=(HBW.out.cell (p:=⟨b,off+k * 3+2,none⟩) hb).trans hc2
  have HT:Hid (((o.preds.take (k+1)).map spZ).flatMap spC=((o.preds.take k).map spZ).flatMap spC ++ [.int .i64 o.preds[k].2.1,.int .i64 o.preds[k].2.2,.int .i64 0]):=hD (by
   rw [List.take_succ_eq_append_getElem hlt,List.map_append,List.flatMap_append]
   rfl)
  clear hc0 hc1 hc2
  generalize o.preds[k].1=s at d0
  generalize o.preds[k].2.1=ar at d1 HT
  generalize o.preds[k].2.2=en at d2 HT
  have hgs:=HF.out.size
  have HO5:=hD (own_fr (S:=fun _=>False) HO.out ((Fr.refl _ wr).alloc (.cells #[.string s,.int .i64 ar,.int .i64 en] 64)) (fun _ _ x=>x))
  have HF5:=hD (HF.out.alloc hgs (.cells #[.string s,.int .i64 ar,.int .i64 en] 64))
  obtain⟨v7,w7,hr7,HA7⟩:=zp1 slSpan HO5.out [.int .i64 ar,.int .i64 en,.int .i64 0] rfl (by intro u hu;simp only [List.mem_cons,List.not_mem_nil,or_false] at hu;rcases hu with rfl | rfl | rfl <;> rfl) (by omega) HF5.out.size 125
  have HB7:Hid (Below w1.heap.size w1 w7):=hD (HF5.out.trans (HA7.out.below HO5.out HF5.out.size))
  have HO7:Hid (w7.ownsRow w1.heap.size 128 3 v7 (k+1) (((o.preds.take (k+1)).map spZ).flatMap spC)):=hD (by rw [HT.out];exact HA7.out.own)
  simp only [World.size_alloc] at hr7
  have HR:=hD hr7
  clear hr7
  go_wp2_with (at_builtin;refine zv HR.out rfl _ _ rfl rfl rfl ?_)
  go_roundw
  case rel=>first | exact⟨k+1,_,by omega,by go_num,rfl,HO7,HB7⟩ | ((repeat apply Exists.intro);exact⟨⟨k+1,_,by omega,by go_num,rfl,HO7,HB7⟩,rfl⟩)
  case measure=>simp [intOf];omega
 case neg=>
 obtain rfl:k=o.preds.length:=by omega
 have HO2:Hid (wr.ownsRow w1.heap.size 128 3 vs o.preds.length ((o.preds.map spZ).flatMap spC)):=hD (by have h:=HO.out;rw [List.take_length] at h;exact h)
 clear HO
 have HXr:=hD (HX.out.below HF.out HX.out.lt)
 have hgl:g<w1.heap.size:=HX.out.lt
 rcases HO2.out.2 with⟨hv0,hn0⟩ | ⟨g',cap,cur,hv',hg',hbl,_⟩
 ·subst hv0
  have hpn:o.preds=[]:=List.eq_nil_of_length_eq_zero hn0
  have x3:=HXr.out.cell 3
  rw [hn0]
  go_wp2_with (go_at_call 90;refine(HSN.out _).mono ?_;rintro e w5 ⟨rfl,hw5⟩;have HF5:Hid (Below w1.heap.size w1 w5):=hD (by rw [hw5];exact HF.out);have x3:=(HX.out.below HF5.out HX.out.lt).cell 3;clear hw5)
  clear HF
  go_loopw [6,7] (fun _ kv wr2=>kv=.int .i64 (-1)∧Hid (Below w1.heap.size w1 wr2)) (fun _ _ _=>0)
  case atStart=>exact⟨by go_num,HF5⟩
  obtain⟨rfl,HF⟩:=hrel
  go_wp2
  go_ret
  refine⟨_,[],rfl,by rw [hpn],List.Pairwise.nil,⟨rfl,.inl ⟨rfl,rfl⟩⟩,?_⟩
  first | exact HB.out.trans (HF.out.mono HG.out) | (rw [hg];exact HB.out.trans (HF.out.mono HG.out)) | (rw [← hg];exact HB.out.trans (HF.out.mono HG.out))
 ·subst hv'
  have HCW:Hid (wr.ownsRow w1.heap.size 128 3 (.slice (some ⟨g',0,none⟩) (o.preds.map spZ).length cap) (o.preds.map spZ).length ((o.preds.map spZ).flatMap spC)):=hD (by rw [List.length_map];exact HO2.out)
  have hcall:=HSO.out w1.heap.size g' cap (o.preds.map spZ) wr HCW.out (by rw [List.length_map];omega)
  rw [List.length_map] at hcall
  have HCALL:=hD hcall
  have hgg:g≠g':=by omega
  clear hcall HCW HO2 hbl
  go_upto_region 8 with(go_at_call 90;refine HCALL.out.mono ?_;rintro e w5 ⟨rfl,l',hp',hs',ho',hf'⟩;have HP':=hD hp';have HS':=hD hs';have HO':=hD ho';have HF':=hD hf';clear hp' hs' ho' hf')
  obtain⟨L,hL1,hL2⟩:=za15 spZ l' o.preds HP'.out
  subst hL2
  have hLl:L.length=o.preds.length:=hL1.length_eq
  have HLP:=hD hL1
  have HLS:Hid (L.Pairwise (fun p q=>p.2.2<q.2.2)):=hD (ze21 (by have h:=HS'.out;rw [List.pairwise_map] at h;exact h) ((hL1.map (·.2.2)).nodup_iff.2 HND.out))
  have HX5:=hD (HXr.out.fr HF'.out hgg)
  have HB5:Hid (Below w1.heap.size w1 w5):=hD (HF.out.trans (HF'.out.below HF.out.size (fun k hk=>by subst hk;exact hg')))
  have x3:=HX5.out.cell 3
  have HO5:Hid (w5.ownsRow w1.heap.size 128 3 (.slice (some ⟨g',0,none⟩) o.preds.length cap) o.preds.length ((rowS o.code.length L L.length).flatMap spC)):=hD (by rw [rowS_all];exact HO'.out)
  clear HP' HS' HF' HCALL hL1 HO'
  have HE0:Hid (nextEnt o.code.length (L.drop L.length)=(o.code.length:Int)):=hD (by rw [List.drop_length];rfl)
  go_upto_region 9 with(fail)
  go_wp2
  clear x3
  go_loopw [6,7] (fun ev kv wr2=>∃ j:Nat,j≤o.preds.length∧kv=.int .i64 ((j:Int) - 1)∧ev=.int .i64 (nextEnt o.code.length (L.drop j))∧Hid (wr2.ownsRow w1.heap.size 128 3 (.slice (some ⟨g',0,none⟩) o.preds.length cap) o.preds.length ((rowS o.code.length L j).flatMap spC))∧Hid (Below w1.heap.size w1 wr2)) (fun _ kv _=>(intOf kv+1).toNat)
  case atStart=>exact⟨o.preds.length,by omega,by go_num,by rw [← hLl,HE0.out],hD (by have h:=HO5.out;rw [hLl] at h;exact h),HB5⟩
  obtain⟨j,hj,hkv,hev,HOj,HBj⟩:=hrel
  clear HO5 HB5
  by_cases hj0:0<j
  case pos=>
   obtain⟨m,rfl⟩:∃ m,j=m+1:=⟨j - 1,by omega⟩
   rw [show((m+1:Nat):Int) - 1=(m:Int) by omega] at hkv
   subst hkv hev
   have hm:m<L.length:=by omega
   have hrm:=rowS_at o.code.length L m hm
   have hfl:=zb3 spC 3 (fun _=>rfl) (rowS o.code.length L (m+1)) m _ hrm
   have hlen:((rowS o.code.length L (m+1)).flatMap spC).length=o.preds.length * 3:=HOj.out.1
   have k2:=HOj.out.cellAt (m * 3+2) (by omega)
   have k1:=HOj.out.cellAt (m * 3+1) (by omega)
   rw [hfl 2 (by omega)] at k2
   rw [hfl 1 (by omega)] at k1
   have z2:=HOj.out.frozenAt (m * 3+2)
   have HST:=hD (HOj.out.stored (m * 3+2) (.int .i64 (nextEnt o.code.length (L.drop (m+1)))))
   have HRW:Hid (((rowS o.code.length L (m+1)).flatMap spC).set (m * 3+2) (.int .i64 (nextEnt o.code.length (L.drop (m+1))))=(rowS o.code.length L m).flatMap spC):=hD (by
    rw [zj14 _ m _ _ _ _ hrm,← rowS_step o.code.length L m hm])
   have HNX:Hid (nextEnt o.code.length (L.drop m)=L[m].2.2):=hD (by rw [List.drop_eq_getElem_cons hm];rfl)
   have i0:(0:Int)≤(m:Int):=by omega
   have i1:(m:Int)<(o.preds.length:Int):=by omega
   have hwr:IntKind.i64.wrap ((m:Int) - 1)=(m:Int) - 1:=IntWalk.i64_in _ (by omega)
   clear hfl hrm hlen
   generalize nextEnt o.code.length (L.drop (m+1))=nx at HST HRW
   simp only [spC,List.getElem?_cons_succ,List.getElem?_cons_zero] at k1 k2
   have k1':=(World.cell?_setCell_other wr ⟨g',m * 3+2,none⟩ ⟨g',m * 3+1,none⟩ (.int .i64 nx) (by simp)).trans k1
   have HBn:=hD (HBj.out.setCell (p:=⟨g',m * 3+2,none⟩) hg' (.int .i64 nx))
   go_wp2
   go_roundw
   case rel=>exact⟨m,by omega,by go_num,by rw [HNX.out],hD (by rw [← HRW.out];exact HST.out.1),HBn⟩
   case measure=>simp [intOf]
  case neg=>
  obtain rfl:j=0:=by omega
  subst hkv hev
  go_wp2
  go_ret
  refine⟨_,L,rfl,HLP.out,HLS.out,?_,?_⟩
  ·have h:=HOj.out
   rw [← hLl] at h
   rw [← hLl]
   refine zh4 h (fun k hk=>?_)
   have:=(own_ge h hk).1
   have:=HG.out
   omega
  ·first | exact HB.out.trans (HBj.out.mono HG.out) | (rw [hg];exact HB.out.trans (HBj.out.mono HG.out)) | (rw [← hg];exact HB.out.trans (HBj.out.mono HG.out))
theorem own_someV {w:World} {base:Nat} {e:TypeId} {size n:Nat} {v:Value} {xs:List Value} (h:w.ownsRow base e size v n xs) (hn:0<n):∃ g c,v=.slice (some ⟨g,0,none⟩) n c:=by
 rcases h.2 with⟨_,h0⟩ | ⟨g,c,_,hv,_⟩
 ·omega
 ·exact⟨g,c,hv⟩
def FaO (o:Ob) (L:List (ByteArray × Int × Int)) (P0:List VPl) (gw gp:Nat) (va vf vp vc:Value) (w2:World) (av i:Value) (wr:World):Prop:=
 ∃ (j n:Nat) (P:List VPl),j≤L.length∧i=.int .i64 j∧av=.int .i64 n∧n≤o.code.length∧Hid (faultP o L 0 P0=faultP o (L.drop j) n P)∧Hid (∀ q ∈ L.drop j,(n:Int)≤q.2.2)∧Hid (PlW P∧P.length=o.code.length)∧Hid (WkAt wr gw gp va vf vp vc P)∧Hid (Fr (fun k=>k=gp) w2 wr)
theorem pass_keep {o:Ob} (ho:ObK o) {ar stop:Int} {n:Nat} {P Q:List VPl} (hn:n<o.code.length) (har:0≤ar∧ar≤8) (hl:n<P.length) (hx:True) (hP:PlW P) (h:passV o ar stop n P=some Q):PlW Q:=by
 have hi:o.code.getD n (0,0,0,0,0)=o.code[n]:=by rw [List.getD_eq_getElem?_getD,List.getElem?_eq_getElem hn];rfl
 have hp:P.getD n plZero=P[n]:=by rw [List.getD_eq_getElem?_getD,List.getElem?_eq_getElem hl];rfl
 unfold passV at h
 simp only at h
 rw [hi,hp] at h
 have hik:=ho.ins o.code[n] (List.getElem_mem hn)
 have hs:=hP P[n] (List.getElem_mem hl)
 generalize o.code[n]=i at h hik
 split at h
 ·cases h
 ·rename_i hc
  have ha:asksV o ar i P[n].s=true:=by
   cases hx:asksV o ar i P[n].s with
   | true=>rfl
   | false=>exact absurd (.inr (.inr (.inl hx))) hc
  have hm:=hs.makes ho hik ha
  injection h with h
  rw [← h]
  refine PlW.brings (P:=P) (fun t=>if i.1=26 then makesV o i P[n].s else stOther ar.toNat) _ _ ?_ (fun t _=>?_)
  ·split
   ·exact hP.bring _ hm
   ·exact hP
  ·show StW (if i.1=26 then makesV o i P[n].s else stOther ar.toNat)
   split
   ·exact hm
   ·exact StW.other _ (by omega)
def FaultW (w:World) (gp:Nat) (o:Ob) (r:Except Nat (Nat × List VPl)) (e:Ending) (w':World):Prop:=
 Fr (fun k=>k=gp) w w'∧match r with
  | .error m=>e=.returned (.int .i64 (m:Int))
  | .ok (m,P)=>if m<o.code.length then e=.returned (.int .i64 (m:Int)) else e=.returned (.int .i64 (-1))∧Box w' gp 133 (plA P)∧PlW P∧P.length=o.code.length
set_option maxHeartbeats 32000000 in
theorem fault_any (HS:SortOk) (HN:SortNil) {o:Ob} (ho:ObK o) (hnd:(o.preds.map (·.2.2)).Nodup) (hent:∀ q ∈ o.preds,0≤q.2.2∧q.2.2<(o.code.length:Int)) {w:World} {gw gp:Nat} {va vf vp vc:Value} {P0:List VPl} (h:WkAt w gw gp va vf vp vc P0) {w0:World} (hv0:ObAt w0 va vf vp vc o) (hb0:Below w0.heap.size w0 w) (hg0:w0.heap.size≤gp) (hP:PlW P0) (hl:P0.length=o.code.length) :
  Calls Tryz.prog 26 #[.pointer (some ⟨gw,0,none⟩)] w fun e w'=>∃ L,L.Perm o.preds∧L.Pairwise (fun p q=>p.2.2<q.2.2)∧FaultW w gp o (faultP o L 0 P0) e w':=by
 have hv:=hv0.below hb0
 obtain⟨A1,c1,rfl⟩:=CellsAt.form hv.atoms
 obtain⟨A2,cf,rfl⟩:=CellsAt.form hv.funs
 obtain⟨A3,cp,rfl⟩:=CellsAt.form hv.preds
 obtain⟨A4,cc,rfl⟩:=CellsAt.form hv.code
 have HSPN:=hD (spans_any HS HN hnd ho.lp ho.lc hv)
 have HVF:Hid (∀ W,Fr (fun k=>k=gp) w W→ObAt W (.slice A1 o.atoms.length c1) (.slice A2 o.funs.length cf) (.slice A3 o.preds.length cp) (.slice A4 o.code.length cc) o):=hD (fun W hW=>hv0.below (hb0.trans (hW.below hb0.size (fun k hk=>by subst hk;exact hg0))))
 have HOB:=hD ho
 have HENT:=hD hent
 have HW:=hD h
 have HP0:Hid (PlW P0∧P0.length=o.code.length):=hD ⟨hP,hl⟩
 have hlc:=ho.lc
 have x0:=h.wk.cell 0
 have x1:=h.wk.cell 1
 have x2:=h.wk.cell 2
 have x3:=h.wk.cell 3
 have hgp:=h.pl.lt
 have hgw:=h.wk.lt
 clear HS HN ho hnd hent h hv hP hl hv0 hb0 hg0
 go_enter Tryz.func26,Tryz.ntmps26
 go_wp2_with (go_at_call 52;refine HSPN.out.mono ?_;rintro e w2 ⟨v2,L,rfl,hL1,hL2,hL3,hb2⟩;obtain⟨A8,k8,hv8,_⟩:=zl hL3;subst hv8;have HLP:=hD hL1;have HLS:=hD hL2;have HO2:=hD hL3;have HB2:=hD hb2;clear hL1 hL2 hL3 hb2)
 clear x0 x1 x2 x3
 have hbk:∀ k,(Value.slice A8 L.length k8).ownBlock=some k→k≠gp:=fun k hk=>by
  have:=(own_ge HO2.out hk).1
  omega
 have HBK:=hD hbk
 clear hbk
 have HW2:=hD (HW.out.fr HB2.out)
 have hlpl:L.length=o.preds.length:=HLP.out.length_eq
 have hlp:=HOB.out.lp
 have HLE:Hid (∀ q ∈ L,0≤q.2.2∧q.2.2<(o.code.length:Int)):=hD (fun q hq=>HENT.out q (HLP.out.mem_iff.1 hq))
 have HLA:Hid (∀ q ∈ L,0≤q.2.1∧q.2.1≤8):=hD (fun q hq=>HOB.out.pred q (HLP.out.mem_iff.1 hq))
 have E0:Hid (faultP o L 0 P0=faultP o (L.drop 0) 0 P0):=hD rfl
 have F0:Hid (Fr (fun k=>k=gp) w2 w2):=hD (Fr.refl _ _)
 have G0:Hid (∀ q ∈ L.drop 0,((0:Nat):Int)≤q.2.2):=hD (fun q hq=>(HLE.out q hq).1)
 go_loopw [3,12] (fun av i wr=>FaO o L P0 gw gp (.slice A1 o.atoms.length c1) (.slice A2 o.funs.length cf) (.slice A3 o.preds.length cp) (.slice A4 o.code.length cc) w2 av i wr) (fun _ i _=>L.length - (intOf i).toNat)
 case atStart=>exact⟨0,0,P0,by omega,rfl,rfl,by omega,E0,G0,HP0,HW2,F0⟩
 obtain⟨j,n,P,hj,rfl,rfl,hn,HE,HGE,HP,HWr,HF⟩:=hrel
 clear E0 F0 G0
 by_cases hlt:j<L.length
 case pos=>
  obtain⟨g8,k8',hv8⟩:=own_someV (own_fr HO2.out HF.out HBK.out) (by omega)
  have HOr:=hD (own_fr HO2.out HF.out HBK.out)
  injection hv8 with hA8 _ hk8
  subst hA8
  have hsp:=zp13 o.code.length L j hlt
  have hfl:=zb3 spC 3 (fun _=>rfl) (spansOf o.code.length L) j _ hsp
  have hlen:=HOr.out.1
  have d0:=HOr.out.cellAt (j * 3+0) (by omega)
  have d1:=HOr.out.cellAt (j * 3+1) (by omega)
  have d2:=HOr.out.cellAt (j * 3+2) (by omega)
  rw [hfl 0 (by omega)] at d0
  rw [hfl 1 (by omega)] at d1
  rw [hfl 2 (by omega)] at d2
  simp only [spC,List.getElem?_cons_succ,List.getElem?_cons_zero,Nat.add_zero] at d0 d1 d2
  have hmem:L[j] ∈ L:=List.getElem_mem hlt
  have hq1:=HLE.out _ hmem
  have hq2:=HLA.out _ hmem
  have hge:=HGE.out L[j] (by rw [List.drop_eq_getElem_cons hlt];exact List.mem_cons_self)
  have hsort:∀ q ∈ L.drop (j+1),L[j].2.2<q.2.2:=by
   have h1:(L.drop j).Pairwise (fun p q=>p.2.2<q.2.2):=HLS.out.sublist (List.drop_sublist _ _)
   rw [List.drop_eq_getElem_cons hlt,List.pairwise_cons] at h1
   exact h1.1
  have hstop:L[j].2.2<nextEnt o.code.length (L.drop (j+1))∧nextEnt o.code.length (L.drop (j+1))≤(o.code.length:Int)∧∀ q ∈ L.drop (j+1),nextEnt o.code.length (L.drop (j+1))≤q.2.2:=by
   cases hd:L.drop (j+1) with
   | nil=>exact⟨hq1.2,Int.le_refl _,fun q hq=>by cases hq⟩
   | cons r M=>
    have hr:r ∈ L.drop (j+1):=by rw [hd];exact List.mem_cons_self
    refine⟨hsort r hr,Int.le_of_lt (HLE.out r (List.drop_subset _ _ hr)).2,fun q hq=>?_⟩
    have h1:(L.drop (j+1)).Pairwise (fun p q=>p.2.2<q.2.2):=HLS.out.sublist (List.drop_sublist _ _)
    rw [hd,List.pairwise_cons] at h1
    rcases List.mem_cons.1 hq with rfl | hq
    ·exact Int.le_refl _
    ·exact Int.le_of_lt (h1.1 q hq)
  have HBAD:Hid ((n:Int)<L[j].2.2→faultP o (L.drop j) n P=.error n):=hD (fun h=>by rw [List.drop_eq_getElem_cons hlt];exact zp19 h)
  have HGO:Hid (¬ (n:Int)<L[j].2.2→faultP o (L.drop j) n P=stepF o L[j].2.1 (nextEnt o.code.length (L.drop (j+1))) (L.drop (j+1)) n (bringV P L[j].2.2 (stEntry L[j].2.1.toNat))):=hD (fun h=>by rw [List.drop_eq_getElem_cons hlt];exact faultP_go h)
  have HSORT:=hD hstop.2.2
  obtain⟨hst1,hst2,_⟩:=hstop
  clear hfl hsp hlen hsort hmem
  generalize nextEnt o.code.length (L.drop (j+1))=stop at d2 hst1 hst2 HSORT HGO
  generalize L[j].2.1=ar at d0 hq2 HGO
  generalize L[j].2.2=fr at d1 hq1 hge hst1 HBAD HGO
  have i1:(j:Int)<(L.length:Int):=by omega
  have i0:(0:Int)≤(j:Int):=by omega
  have hgwr:gp<wr.heap.size:=HWr.out.pl.lt
  have HX5:=hD (Box.new wr 128 #[.int .i64 ar,.int .i64 fr,.int .i64 stop])
  have HF5:=hD (HF.out.alloc (.cells #[.int .i64 ar,.int .i64 fr,.int .i64 stop] 128))
  have HW5:=hD (HWr.out.fr (za wr (.cells #[.int .i64 ar,.int .i64 fr,.int .i64 stop] 128)))
  by_cases hb:(n:Int)<fr
  ·have HR:=hD (HE.out.trans (HBAD.out hb))
   clear HBAD HGO HE
   go_wp2
   go_ret
   exact⟨L,HLP.out,HLS.out,(Fr.of_below HB2.out).trans HF5.out,by rw [HR.out];rfl⟩
  ·have HR:=hD (HE.out.trans (HGO.out hb))
   obtain rfl:fr=(n:Int):=by omega
   clear HBAD HGO HE hge
   go_upto_region 7 with(fail)
   obtain⟨w5,hw5⟩:∃ w5,wr.alloc (.cells #[.int .i64 ar,.int .i64 (n:Int),.int .i64 stop] 128)=w5:=⟨_,rfl⟩
   obtain⟨g5,hg5e⟩:∃ g5,wr.heap.size=g5:=⟨_,rfl⟩
   rw [hw5] at HX5 HF5 HW5 ⊢
   rw [hg5e] at HX5 ⊢
   have hg5:g5≠gp:=by omega
   clear hw5 d0 d1 d2
   have s0:=HX5.out.cell 0
   have s1:=HX5.out.cell 1
   have har2:((ar.toNat:Nat):Int)=ar:=by omega
   have hen:=fun w=>zk11 ar.toNat (by omega) w
   rw [har2] at hen
   have HEN:=hD hen
   clear hen
   have HCM:=hD (fun W (hW:WkAt W gw gp (.slice A1 o.atoms.length c1) (.slice A2 o.funs.length cf) (.slice A3 o.preds.length cp) (.slice A4 o.code.length cc) P)=>zw12 hW HP.out.1 (n:Int) (by omega) (by rw [HP.out.2];exact hq1.2) (by rw [HP.out.2];exact hlc) (StOk.entry ar.toNat (by omega)))
   have HP1:Hid (PlW (bringV P (n:Int) (stEntry ar.toNat))∧(bringV P (n:Int) (stEntry ar.toNat)).length=o.code.length):=hD ⟨HP.out.1.bring _ (StW.entry _ (by omega)),by rw [zw1];exact HP.out.2⟩
   refine wp_region_noPanic ?_
   refine zt 99 (fun w'=>w'.cell? ⟨g5,0,none⟩=some (.int .i64 ar)∧w'.cell? ⟨g5,1,none⟩=some (.int .i64 (n:Int))) (by kernel_rfl) ?_ (fun hHeld=>?_)
   ·exact⟨s0,s1⟩
   change wpAnyT _ _ _ _ _ _ _ _ _ w5.drew
   replace hHeld:w5.drew.cell? ⟨g5,0,none⟩=some (.int .i64 ar)∧w5.drew.cell? ⟨g5,1,none⟩=some (.int .i64 (n:Int)):=hHeld
   have HWd:Hid (WkAt w5.drew gw gp (.slice A1 o.atoms.length c1) (.slice A2 o.funs.length cf) (.slice A3 o.preds.length cp) (.slice A4 o.code.length cc) P):=hD ⟨HW5.out.wk,HW5.out.pl⟩
   have HXd:=hD HX5.out.drew
   have HFd:=hD HF5.out.drew
   have hszd:w5.drew.heap.size=w5.heap.size:=rfl
   generalize w5.drew=w6 at hHeld HWd HXd HFd hszd ⊢
   have st:Stp [0,1]:=trivial
   iterate 2
    refine tPL st (v:=?_) rfl ?_ ?_
    rotate_left
    ·(intro w hSw;(try dsimp only at hSw);go_simp;try with_reducible rfl)
    replace st:=st.tl
    try simp only [qA,qB,qC,Act.put,qD,qE,qF]
   refine tS (i:=2) (v:=?_) rfl ?_ hHeld ?_
   rotate_left
   ·intro w hSw
    try dsimp only at hSw
    obtain⟨h1,h2⟩:=hSw
    go_simp
    try with_reducible rfl
   try simp only [qA,qB,qC,Act.put,qD,qE,qF]
   refine tP (i:=3) (v:=?_) rfl ?_ ?_
   rotate_left
   ·(intro w hSw;(try dsimp only at hSw);go_simp;try with_reducible rfl)
   try simp only [qA,qB,qC,Act.put,qD,qE,qF]
   refine tS (i:=4) (v:=?_) rfl ?_ hHeld ?_
   rotate_left
   ·intro w hSw
    try dsimp only at hSw
    obtain⟨h1,h2⟩:=hSw
    go_simp
    try with_reducible rfl
   try simp only [qA,qB,qC,Act.put,qD,qE,qF]
   refine wT1 (i:=5) (by kernel_rfl) rfl fun K hK=>?_
   go_simp
   go_at_call 54;refine(HEN.out w6).mono ?_;rintro e1 w7 ⟨rfl,hb7⟩
   have HW7:=hD (HWd.out.fr hb7)
   have HX7:=hD (HXd.out.below hb7 HXd.out.lt)
   have HF7:=hD (HFd.out.trans (Fr.of_below hb7))
   clear hb7
   refine hK.out _ _ (fun _=>?_) (fun hHeld2=>?_)
   ·exact⟨HX7.out.cell 0,HX7.out.cell 1⟩
   replace hHeld:=hHeld2 (by decide)
   clear hHeld2 hK K
   try simp only [qA,qB,qC,Act.put,qD,qE,qF]
   refine wT1 (i:=6) (by kernel_rfl) rfl fun K hK=>?_
   go_simp
   go_at_call 53;refine(HCM.out w7 HW7.out).mono ?_;rintro e1 w8 ⟨rfl,hf8,hp8⟩
   have HW8:=hD (HW7.out.upd hf8 hp8 (zw1 _ _ _))
   have HX8:=hD (HX7.out.fr hf8 hg5)
   have HF8:=hD (HF7.out.trans hf8)
   clear hf8 hp8
   refine hK.out _ _ (fun _=>?_) (fun hHeld2=>?_)
   ·exact⟨HX8.out.cell 0,HX8.out.cell 1⟩
   clear hHeld2 hK K
   try simp only [qA,qB,qC,Act.put,qD,qE,qF]
   refine zn (by kernel_rfl) (NoPanic.normal ?_) _
   generalize bringV P (n:Int) (stEntry ar.toNat)=P1 at HR HP1 HW8
   clear s0 s1 HX5 HF5 HW5 HWd HXd HFd HX7 HW7 HF7 HCM HEN hHeld
   have E0:Hid (faultP o L 0 P0=stepF o ar stop (L.drop (j+1)) n P1):=hD HR.out
   have F0:Hid (Fr (fun k=>k=gp) w8 w8):=hD (Fr.refl _ _)
   go_wp2
   go_loopw [3] (fun av wr3=>∃ (m:Nat) (Q:List VPl),av=.int .i64 m∧(m:Int)≤stop∧Hid (faultP o L 0 P0=stepF o ar stop (L.drop (j+1)) m Q)∧Hid (PlW Q∧Q.length=o.code.length)∧Hid (WkAt wr3 gw gp (.slice A1 o.atoms.length c1) (.slice A2 o.funs.length cf) (.slice A3 o.preds.length cp) (.slice A4 o.code.length cc) Q)∧Hid (Fr (fun k=>k=gp) w8 wr3)) (fun av _=>(stop - intOf av).toNat)
   case atStart=>exact⟨n,P1,rfl,by omega,E0,HP1,HW8,F0⟩
   obtain⟨m,Q,rfl,hm,HEm,HQ,HWm,HFm⟩:=hrel
   clear E0 F0
   have HXm:=hD (HX8.out.fr HFm.out hg5)
   have s0:=HXm.out.cell 0
   have s1:=HXm.out.cell 1
   have s2:=HXm.out.cell 2
   by_cases hms:(m:Int)<stop
   case pos=>
    have HFw:=hD ((Fr.of_below HB2.out).trans (HF8.out.trans HFm.out))
    have hps:=pass_any HOB.out ar (n:Int) stop hq2 hst2 HWm.out (HVF.out _ HFw.out) HQ.out.1 HQ.out.2 m (by rw [HQ.out.2];omega)
    have HBADm:=hD (fun h=>stepF_bad (o:=o) (ar:=ar) (L:=L.drop (j+1)) (P:=Q) hms h)
    have HGOm:=hD (fun R h=>stepF_go (o:=o) (ar:=ar) (L:=L.drop (j+1)) (P:=Q) (Q:=R) hms h)
    have HLEN:=hD (fun R (h:passV o ar stop m Q=some R)=>pass_len h)
    have HPWK:=hD (fun R (h:passV o ar stop m Q=some R)=>pass_keep HOB.out (by omega) hq2 (by rw [HQ.out.2];omega) trivial HQ.out.1 h)
    obtain⟨r,hr⟩:∃ r,passV o ar stop m Q=r:=⟨_,rfl⟩
    rw [hr] at hps HBADm HGOm HLEN HPWK
    clear hr
    cases r with
    | none=>
     have HPS:=hD hps
     have HR2:=hD (HEm.out.trans (HBADm.out rfl))
     clear hps HBADm HGOm HEm HLEN HPWK
     go_wp2_with (go_at_call 55;refine HPS.out.mono ?_;rintro e1 w9 ⟨hf9,rfl⟩;have HF9:=hD hf9;clear hf9)
     go_ret
     exact⟨L,HLP.out,HLS.out,HFw.out.trans HF9.out,by rw [HR2.out];rfl⟩
    | some R=>
     have HPS:=hD hps
     have HE2:=hD (HEm.out.trans (HGOm.out R rfl))
     have hlen:=HLEN.out R rfl
     have HPW2:=hD (HPWK.out R rfl)
     have HQ2:Hid (PlW R∧R.length=o.code.length):=hD ⟨HPW2.out,by rw [hlen];exact HQ.out.2⟩
     clear hps HBADm HGOm HEm HLEN HPWK
     go_wp2_with (go_at_call 55;refine HPS.out.mono ?_;rintro e1 w9 ⟨hf9,rfl,hp9⟩;have HF9:=hD hf9;have HW9:=hD (HWm.out.upd hf9 hp9 hlen);clear hf9 hp9)
     go_roundw
     case rel=>exact⟨m+1,R,by go_num,by omega,HE2,HQ2,HW9,hD (HFm.out.trans HF9.out)⟩
     case measure=>simp [intOf];omega
   case neg=>
   obtain rfl:stop=(m:Int):=by omega
   have HE2:=hD (HEm.out.trans (stepF_end rfl))
   have HFw:=hD (HF8.out.trans HFm.out)
   clear HEm
   go_wp2
   go_roundw
   case rel=>first | exact⟨j+1,m,Q,by omega,by go_num,rfl,by omega,HE2,HSORT,HQ,HWm,HFw⟩ | ((repeat apply Exists.intro);exact⟨⟨j+1,m,Q,by omega,by go_num,rfl,by omega,HE2,HSORT,HQ,HWm,HFw⟩,rfl,rfl,rfl,rfl⟩)
   case measure=>simp [intOf];omega
 case neg=>
 obtain rfl:j=L.length:=by omega
 have HR:Hid (faultP o L 0 P0=.ok (n,P)):=hD (by rw [HE.out,List.drop_length];rfl)
 have HFw:=hD ((Fr.of_below HB2.out).trans HF.out)
 have x3:=HWr.out.wk.cell 3
 clear HE
 by_cases hnc:n<o.code.length
 ·have i1:(n:Int)<(o.code.length:Int):=by omega
  go_wp2
  go_ret
  exact⟨L,HLP.out,HLS.out,HFw.out,by rw [HR.out];show(if n<o.code.length then _ else _);rw [if_pos hnc];rfl⟩
 ·have i1:¬ (n:Int)<(o.code.length:Int):=by omega
  go_wp2
  go_ret
  exact⟨L,HLP.out,HLS.out,HFw.out,by rw [HR.out];show(if n<o.code.length then _ else _);rw [if_neg hnc];exact⟨rfl,HWr.out.pl,HP.out.1,HP.out.2⟩⟩
end Go.Proofs.YtlmbiafloiompaaGreatDoor
