/-
  3 texts in one (AsmJ AsmK AsmL). Conditions: those of each theorem.
-/
import Derived.Test.YtlmbiafloiompaaGreatDoorJO41
set_option linter.unusedVariables false
set_option linter.unusedSimpArgs false
namespace Go.Proofs.YtlmbiafloiompaaGreatDoor
open Go Go.RowKit Go.WideShapes Go.ChangeShapes
theorem zq5:∀ l:List UInt8,noBlank l ∨ ∃ w r,noBlank w∧l=w ++ 32 :: r
 | []=>.inl (fun c hc=>by cases hc)
 | c :: l=>by
  by_cases h:c=32
  ·subst h
   exact .inr ⟨[],l,(fun c hc=>by cases hc),rfl⟩
  ·rcases zq5 l with h1 | ⟨w,r,h1,rfl⟩
   ·refine .inl (fun d hd=>?_)
    rcases List.mem_cons.1 hd with rfl | hd
    ·exact h
    ·exact h1 d hd
   ·refine .inr ⟨c :: w,r,fun d hd=>?_,rfl⟩
    rcases List.mem_cons.1 hd with rfl | hd
    ·exact h
    ·exact h1 d hd
theorem zp10 {l:List UInt8} (h:noBlank l) (k:Nat):Lib.splitK [32] 0 k l=[l]:=by
 have:=zg12 [] l k h (fun w hw=>by cases hw) (Nat.zero_le _)
 simpa using this
theorem zb21 {w:List UInt8} (r:List UInt8) (h:noBlank w) (k:Nat):Lib.splitK [32] 0 (k+1) (w ++ 32 :: r)=w :: Lib.splitK [32] 0 k r:=by
 have hi:Lib.index (w ++ 32 :: r) [32]=(w.length:Int):=zr14 _ h
 have hm:¬ (Lib.index (w ++ 32 :: r) [32] == -1)=true:=by
  rw [hi]
  intro e
  have:=beq_iff_eq.1 e
  omega
 rw [Lib.splitK,if_neg hm,hi]
 have e1:((w.length:Int)).toNat=w.length:=by omega
 rw [e1,Nat.add_zero,List.take_left]
 have e2:(w ++ 32 :: r).drop (w.length + [(32:UInt8)].length)=r:=by
  rw [← List.drop_drop,List.drop_left]
  rfl
 rw [e2]
theorem zv3:∀ (l:List UInt8),∀ w ∈ splitW l,noBlank w
 | [],w,hw=>by
  rw [splitW] at hw
  rw [List.mem_singleton.1 hw]
  exact fun c hc=>by cases hc
 | c :: l,w,hw=>by
  have ih:=zv3 l
  rw [splitW] at hw
  split at hw
  ·rcases List.mem_cons.1 hw with rfl | hw
   ·exact fun c hc=>by cases hc
   ·exact ih w hw
  ·rename_i hc
   split at hw
   ·rw [List.mem_singleton.1 hw]
    intro d hd
    rw [List.mem_singleton.1 hd]
    exact hc
   ·rename_i v vs hv
    rcases List.mem_cons.1 hw with rfl | hw
    ·intro d hd
     rcases List.mem_cons.1 hd with rfl | hd
     ·exact hc
     ·exact ih v (by rw [hv];simp) d hd
    ·exact ih w (by rw [hv];simp [hw])
theorem ze12:∀ (k:Nat) (l:List UInt8),(Lib.splitK [32] 0 k l).length=min (k+1) (splitW l).length∧((splitW l).length≤k+1→Lib.splitK [32] 0 k l=splitW l)∧(0<k→(Lib.splitK [32] 0 k l).getD 0 []=(splitW l).getD 0 [])
 | 0,l=>by
  rcases zq5 l with h | ⟨w,r,h,rfl⟩
  ·rw [zp10 h,zr2 h]
   exact⟨rfl,fun _=>rfl,fun h=>absurd h (by omega)⟩
  ·rw [zl5 _ h]
   have hn:0<(splitW r).length:=List.length_pos_iff.2 (zs15 r)
   refine⟨by rw [Lib.splitK,List.length_cons,List.length_nil,List.length_cons];omega,fun h=>?_,fun h=>absurd h (by omega)⟩
   rw [List.length_cons] at h
   omega
 | k+1,l=>by
  rcases zq5 l with h | ⟨w,r,h,rfl⟩
  ·rw [zp10 h,zr2 h]
   exact⟨by simp,fun _=>rfl,fun _=>rfl⟩
  ·obtain⟨h1,h2,_⟩:=ze12 k r
   rw [zb21 _ h,zl5 _ h]
   refine⟨by rw [List.length_cons,h1,List.length_cons];omega,fun hh=>?_,fun _=>rfl⟩
   rw [List.length_cons] at hh
   rw [h2 (by omega)]
theorem zf12:∀ l:List UInt8,(splitW l).length≤l.length+1
 | []=>by simp [splitW]
 | c :: l=>by
  have ih:=zf12 l
  rw [splitW]
  split
  ·simp;omega
  ·split
   ·simp
   ·rename_i v vs hv
    rw [hv] at ih
    simp at ih ⊢
    omega
theorem zv15 (l:List UInt8):(wordsOf l).length=min 6 (splitW l).length∧((splitW l).length≤5→wordsOf l=splitW l)∧(wordsOf l).getD 0 []=(splitW l).getD 0 []:=by
 have hs:=zf12 l
 obtain⟨h1,h2,h3⟩:=ze12 (min 6 (l.length+1) - 1) l
 unfold wordsOf
 refine⟨by rw [h1];omega,fun h=>h2 (by omega),?_⟩
 by_cases h0:l.length=0
 ·rw [h2 (by omega)]
 ·exact h3 (by omega)
def NsP (L:List Int) (ws:List (List UInt8)) (o0:Ob) (m:Nat) (ns:List Int) (vs:List (List UInt8)) (o:Ob):Prop:=
 ns.length=m∧vs.length=m∧namesStep L ws o0=(namesStep (L.drop m) (ws.drop m) o).map fun r=>(ns ++ r.1,vs ++ r.2.1,r.2.2)
theorem NsP.start (L:List Int) (ws:List (List UInt8)) (o:Ob):NsP L ws o 0 [] [] o:=⟨rfl,rfl,by simp⟩
theorem zv9 {L:List Int} {ws:List (List UInt8)} {m:Nat} (hL:m<L.length):L.drop m=L.getD m 0 :: L.drop (m+1)∧(ws.drop m).headD []=ws.getD m []∧(ws.drop m).tail=ws.drop (m+1):=by
 refine⟨?_,?_,by rw [List.tail_drop]⟩
 ·rw [List.drop_eq_getElem_cons hL,List.getD_eq_getElem?_getD,List.getElem?_eq_getElem hL]
  rfl
 ·rw [List.headD_eq_head?_getD,List.head?_drop,List.getD_eq_getElem?_getD]
theorem NsP.keep {L:List Int} {ws:List (List UInt8)} {o0 o:Ob} {m:Nat} {ns:List Int} {vs:List (List UInt8)} (h:NsP L ws o0 m ns vs o) (hL:m<L.length) (hn:isNamedB (L.getD m 0) (ws.getD m [])=false):NsP L ws o0 (m+1) (ns ++ [0]) (vs ++ [ws.getD m []]) o:=by
 obtain⟨e1,e2,e3⟩:=zv9 (ws:=ws) hL
 refine⟨by simp [h.1],by simp [h.2.1],?_⟩
 rw [h.2.2,e1,namesStep,e2,e3,hn,if_neg (by simp),Option.map_map]
 congr 1
 funext r
 simp
theorem NsP.put {L:List Int} {ws:List (List UInt8)} {o0 o o':Ob} {m:Nat} {ns:List Int} {vs:List (List UInt8)} {x:Int} (h:NsP L ws o0 m ns vs o) (hL:m<L.length) (hn:isNamedB (L.getD m 0) (ws.getD m [])=true) (hs:numStep (L.getD m 0) (ws.getD m []) o=some (x,o')):NsP L ws o0 (m+1) (ns ++ [x]) (vs ++ [[48]]) o':=by
 obtain⟨e1,e2,e3⟩:=zv9 (ws:=ws) hL
 refine⟨by simp [h.1],by simp [h.2.1],?_⟩
 rw [h.2.2,e1,namesStep,e2,e3,if_pos hn,hs]
 simp only [Option.map_map]
 congr 1
 funext r
 simp
theorem NsP.bad {L:List Int} {ws:List (List UInt8)} {o0 o:Ob} {m:Nat} {ns:List Int} {vs:List (List UInt8)} (h:NsP L ws o0 m ns vs o) (hL:m<L.length) (hn:isNamedB (L.getD m 0) (ws.getD m [])=true) (hs:numStep (L.getD m 0) (ws.getD m []) o=none):namesStep L ws o0=none:=by
 obtain⟨e1,e2,e3⟩:=zv9 (ws:=ws) hL
 rw [h.2.2,e1,namesStep,e2,if_pos hn,hs]
 rfl
theorem NsP.done {L:List Int} {ws:List (List UInt8)} {o0 o:Ob} {ns:List Int} {vs:List (List UInt8)} (h:NsP L ws o0 L.length ns vs o):namesStep L ws o0=some (ns,vs,o):=by
 rw [h.2.2,List.drop_length,namesStep]
 simp
theorem zh8:∀ (n k:Nat) (s:ByteArray),0≤namedFrom s k n→∃ j,k≤j∧j<k+n∧namedFrom s k n=(j:Int)∧nameAt j=s
 | 0,k,s,h=>by
  rw [namedFrom] at h
  omega
 | n+1,k,s,h=>by
  rw [zs4] at h ⊢
  by_cases hc:nameAt k=s
  ·rw [if_pos hc]
   exact⟨k,by omega,by omega,rfl,hc⟩
  ·rw [if_neg hc] at h ⊢
   obtain⟨j,h1,h2,h3,h4⟩:=zh8 n (k+1) s h
   exact⟨j,by omega,by omega,h3,h4⟩
theorem zn18 {s:ByteArray} (h:0≤namedOf s):∃ K:Nat,K<27∧namedOf s=(K:Int)∧nameAt K=s:=by
 obtain⟨j,_,h2,h3,h4⟩:=zh8 27 0 s h
 exact⟨j,by omega,h3,h4⟩
theorem named_low {s:ByteArray} (h:namedOf s<0):opsOf (namedOf s)=[]:=by
 have:∀ (n k:Nat),namedFrom s k n<0→namedFrom s k n = -1:=by
  intro n
  induction n with
  | zero=>intro k _;rfl
  | succ n ih=>
   intro k hk
   rw [zs4] at hk ⊢
   split
   ·rename_i hc
    rw [if_pos hc] at hk
    omega
   ·rename_i hc
    rw [if_neg hc] at hk
    exact ih _ hk
 have e:namedOf s = -1:=this 27 0 h
 rw [e]
 rfl
theorem zv8 (op:Int):op=26→∀ k ∈ opsOf op,k=8:=by
 rintro rfl k hk
 have:opsOf 26=[8,8,8,8]:=rfl
 rw [this] at hk
 simpa using hk
theorem zv2:∀ {L:List Int} {ws:List (List UInt8)} {o o':Ob} {ns:List Int} {vs:List (List UInt8)},namesStep L ws o=some (ns,vs,o')→o'.code=o.code∧ns.length=L.length∧vs.length=L.length∧∀ w ∈ vs,noBlank w ∨ w ∈ ws
 | [],ws,o,o',ns,vs,h=>by
  injection h with h
  injection h with h1 h
  injection h with h2 h3
  subst h1 h2 h3
  exact⟨rfl,rfl,rfl,fun w hw=>by cases hw⟩
 | k :: ks,ws,o,o',ns,vs,h=>by
  have hmem:∀ w,w ∈ ws.tail→w ∈ ws:=fun w hw=>by
   cases ws with
   | nil=>cases hw
   | cons a t=>exact List.mem_cons_of_mem _ hw
  rw [namesStep] at h
  split at h
  ·split at h
   ·cases h
   ·rename_i x o1 hs
    cases hr:namesStep ks ws.tail o1 with
    | none=>rw [hr] at h;cases h
    | some r=>
     obtain⟨ns1,vs1,o2⟩:=r
     rw [hr] at h
     injection h with h
     injection h with h1 h
     injection h with h2 h3
     subst h1 h2 h3
     obtain⟨g1,g2,g3,g4⟩:=zv2 hr
     refine⟨?_,by simp [g2],by simp [g3],fun w hw=>?_⟩
     ·rw [g1]
      unfold numStep at hs
      split at hs
      ·split at hs
       ·injection hs with hs
        injection hs with _ hs
        subst hs
        rfl
       ·cases hs
      ·split at hs
       ·cases hf:funOf (ws.headD []) 1 with
        | none=>rw [hf] at hs;cases hs
        | some f=>
         rw [hf] at hs
         injection hs with hs
         injection hs with _ hs
         subst hs
         rfl
       ·split at hs
        ·cases hf:funOf (ws.headD []) 0 with
         | none=>rw [hf] at hs;cases hs
         | some f=>
          rw [hf] at hs
          injection hs with hs
          have hs:predStep o f=(x,o1):=hs
          have h2:o1=(predStep o f).2:=by rw [hs]
          rw [h2]
          unfold predStep
          split <;> rfl
        ·cases hf:labelOf (ws.headD []) with
         | none=>rw [hf] at hs;cases hs
         | some f=>
          rw [hf] at hs
          injection hs with hs
          injection hs with _ hs
          subst hs
          rfl
     ·rcases List.mem_cons.1 hw with rfl | hw
      ·exact .inl (fun c hc=>by rw [List.mem_singleton.1 hc];decide)
      ·exact(g4 w hw).imp id (hmem w)
  ·cases hr:namesStep ks ws.tail o with
   | none=>rw [hr] at h;cases h
   | some r=>
    obtain⟨ns1,vs1,o2⟩:=r
    rw [hr] at h
    injection h with h
    injection h with h1 h
    injection h with h2 h3
    subst h1 h2 h3
    obtain⟨g1,g2,g3,g4⟩:=zv2 hr
    refine⟨g1,by simp [g2],by simp [g3],fun w hw=>?_⟩
    rcases List.mem_cons.1 hw with rfl | hw
    ·cases ws with
     | nil=>exact .inl (fun c hc=>by cases hc)
     | cons a t=>exact .inr (by simp)
    ·exact(g4 w hw).imp id (hmem w)
def sum4 (l ns:List Int):List Int:=[l.getD 0 0+ns.getD 0 0,l.getD 1 0+ns.getD 1 0,l.getD 2 0+ns.getD 2 0,l.getD 3 0+ns.getD 3 0]
theorem zc9:∀ (L ns:List Int) (k:Nat),ns.length=L.length→(addL L ns).getD k 0=L.getD k 0+ns.getD k 0
 | [],ns,k,h=>by
  have:ns=[]:=List.length_eq_zero_iff.1 h
  subst this
  simp [addL]
 | x :: L,[],k,h=>by simp at h
 | x :: L,y :: ns,0,h=>by simp [addL]
 | x :: L,y :: ns,k+1,h=>by
  have:=zc9 L ns k (by simpa using h)
  simpa [addL] using this
theorem ins_sum (op:Int) (L ns:List Int) (h:ns.length=L.length):insOf op (addL L ns)=insOf op (sum4 (padded L) ns):=by
 unfold insOf
 rw [zc9 _ _ _ h,zc9 _ _ _ h,zc9 _ _ _ h,zc9 _ _ _ h]
 rfl
theorem instr_eq (n:Int) (x:List UInt8) (s:St) (op:Int) (hop:namedOf (bs ((wordsOf x).getD 0 []))=op) :
  instrLine n x s=if (wordsOf x).length≠(opsOf op).length+1 then .error 17 else
   match namesStep (opsOf op) (wordsOf x).tail s.ob with
   | none=>.error 17
   | some (ns,vs,o)=>match parseP ((wordsOf x).getD 0 [] ++ vs.flatMap (32 :: ·)) with
    | none=>.error 17
    | some (op',l)=>.ok { s with ob:={ o with code:=o.code ++ [insOf op' (sum4 l ns)] },pts:=s.pts ++ [(n,(s.ob.code.length:Int),false)] }:=by
 obtain⟨h1,h2,h3⟩:=zv15 x
 have hne:0<(splitW x).length:=List.length_pos_iff.2 (zs15 x)
 have hfew:=zv1 op
 have hop2:namedOf (bs ((splitW x).getD 0 []))=op:=by rw [← h3];exact hop
 unfold instrLine
 rw [hop2]
 by_cases hc:(wordsOf x).length≠(opsOf op).length+1
 ·rw [if_pos hc,if_pos (.inr (by omega))]
 rw [if_neg hc]
 have hw:wordsOf x=splitW x:=h2 (by omega)
 rw [hw]
 by_cases hlow:op<0
 ·have hL:opsOf op=[]:=by rw [← hop];exact named_low (by rw [hop];exact hlow)
  rw [if_pos (.inl hlow),hL]
  have hp:parseP ((splitW x).getD 0 [] ++ ([]:List (List UInt8)).flatMap (32 :: ·))=none:=by
   have hnb:=zv3 x
   have hl1:splitW x=[(splitW x).getD 0 []]:=by
    have:(splitW x).length=1:=by rw [hw,hL] at hc;simp at hc;omega
    match hs:splitW x,this with
    | [a],_=>rfl
   have hn0:noBlank ((splitW x).getD 0 []):=by
    apply hnb
    rw [List.getD_eq_getElem?_getD,List.getElem?_eq_getElem hne]
    exact List.getElem_mem hne
   have hwo:wordsOf ((splitW x).getD 0 [])=[(splitW x).getD 0 []]:=by
    have:=(zv15 ((splitW x).getD 0 [])).2.1 (by rw [zr2 hn0];simp)
    rw [this,zr2 hn0]
   simp only [List.flatMap_nil,List.append_nil]
   unfold parseP
   rw [if_pos (.inl (by rw [hwo,List.getD_cons_zero,hop2];exact hlow))]
  rw [namesStep]
  simp only [hp]
 ·obtain⟨K,hK,hnK,hat⟩:=zn18 (s:=bs ((splitW x).getD 0 [])) (by rw [hop2];omega)
  have hKop:op=(K:Int):=by rw [← hop2];exact hnK
  rw [if_neg (by
   rintro(h | h)
   ·exact hlow h
   ·omega)]
  rw [zk12 op (opsOf op) (splitW x).tail s.ob (zv8 op)]
  cases hs:namesStep (opsOf op) (splitW x).tail s.ob with
  | none=>rfl
  | some r=>
   obtain⟨ns,vs,o⟩:=r
   simp only
   obtain⟨g1,g2,g3,g4⟩:=zv2 hs
   have hvs:∀ w ∈ vs,noBlank w:=fun w hw=>by
    rcases g4 w hw with h | h
    ·exact h
    ·refine zv3 x w ?_
     cases hx:splitW x with
     | nil=>rw [hx] at h;cases h
     | cons a t=>rw [hx] at h;exact List.mem_cons_of_mem _ h
   have hpw:=zu16 K hK vs (by rw [g3,hKop]) hvs
   have hname:(splitW x).getD 0 []=(nameAt K).data.toList:=by rw [hat,za4]
   rw [hname,hpw,hKop]
   cases ha:argsW (K:Int) (opsOf (K:Int)) vs with
   | none=>rfl
   | some L=>
    simp only [Option.map_some]
    rw [ins_sum _ _ _ (by rw [g2,zv13 ha,hKop])]
theorem zv11 {kind:Int} {w:List UInt8} {o o':Ob} {n:Int} (h:numStep kind w o=some (n,o')) :
  0≤n∧n≤(o.atoms.length:Int)+o.funs.length+o.preds.length+1023∧o'.atoms.length≤o.atoms.length+1∧o'.funs.length≤o.funs.length+1∧o'.preds.length≤o.preds.length+1:=by
 have hadd:∀ {α:Type} [DecidableEq α] (l:List α) (x:α),(addTo l x).length≤l.length+1∧placeOf l x≤l.length:=fun l x=>by
  refine⟨?_,List.findIdx_le_length⟩
  unfold addTo
  split <;> simp
 unfold numStep at h
 split at h
 ·split at h
  ·injection h with h
   injection h with h1 h2
   subst h1 h2
   have:=hadd o.atoms (bs w)
   simp only
   omega
  ·cases h
 ·split at h
  ·cases hf:funOf w 1 with
   | none=>rw [hf] at h;cases h
   | some f=>
    rw [hf] at h
    injection h with h
    injection h with h1 h2
    subst h1 h2
    have:=hadd o.funs f
    simp only
    omega
  ·split at h
   ·cases hf:funOf w 0 with
    | none=>rw [hf] at h;cases h
    | some f=>
     rw [hf] at h
     injection h with h
     have h:predStep o f=(n,o'):=h
     have h1:n=(predStep o f).1:=by rw [h]
     have h2:o'=(predStep o f).2:=by rw [h]
     subst h1 h2
     have hff:∀ (l:List (ByteArray × Int × Int)) (k:Nat),findFrom f.1 f.2 k l<(k:Int)+l.length+1:=by
      intro l
      induction l with
      | nil=>intro k;simp [findFrom];omega
      | cons p l ih=>
       intro k
       rw [findFrom]
       have:=ih (k+1)
       split
       ·simp;omega
       ·simp at this ⊢;omega
     have:=hff o.preds 0
     unfold predStep
     split
     ·simp;omega
     ·simp only;omega
   ·cases hf:labelOf w with
    | none=>rw [hf] at h;cases h
    | some f=>
     rw [hf] at h
     injection h with h
     injection h with h1 h2
     subst h1 h2
     have:=zl7 hf
     omega
structure Tl (w0 wr:World) (g M gw gn gl:Nat) (pl:Option Addr) (L:List Int) (y0:List UInt8) (ws:List (List UInt8)) (s:St) (m:Nat) (ns:List Int) (vs:List (List UInt8)) (o:Ob) (ua uf up vc vq:Value) (arr:Array Value):Prop where
 mm:Mk w0 wr g M ua uf up vc vq { s with ob:=o }
 wb:Box wr gw 9 arr
 wc:∀ k,k<L.length+1→arr[k]?=some (.string (bs ((y0 :: (vs ++ ws.drop m)).getD k [])))
 nb:Box wr gn 52 ((ns ++ List.replicate (4 - m) 0).map (Value.int .i64)).toArray
 lb:0<L.length→pl=some ⟨gl,0,none⟩∧Box wr gl 3 (L.map (Value.int .i64)).toArray
 out:∀ b,b=gw ∨ b=gn→b≠g∧b≠M∧¬ OwnK ua uf up vc vq b
 outl:0<L.length→gl≠g∧gl≠M∧¬ OwnK ua uf up vc vq gl
 ge:w0.heap.size≤gw∧w0.heap.size≤gn
 ne1:gw≠gn
 ne2:0<L.length→gw≠gl∧gn≠gl
section
variable {w0 wr w':World} {g M gw gn gl:Nat} {pl:Option Addr} {L:List Int} {y0:List UInt8} {ws:List (List UInt8)} {s:St} {m:Nat} {ns:List Int} {vs:List (List UInt8)} {o o':Ob} {ua uf up ua' uf' up' vc vq:Value} {arr:Array Value}
theorem Tl.goes (h:Tl w0 wr g M gw gn gl pl L y0 ws s m ns vs o ua uf up vc vq arr) (hb:Below wr.heap.size wr w'):Tl w0 w' g M gw gn gl pl L y0 ws s m ns vs o ua uf up vc vq arr:=
 ⟨h.mm.up hb,h.wb.below hb h.wb.lt,h.wc,h.nb.below hb h.nb.lt,fun hl=>⟨(h.lb hl).1,(h.lb hl).2.below hb (h.lb hl).2.lt⟩,h.out,h.outl,h.ge,h.ne1,h.ne2⟩
theorem Tl.num (h:Tl w0 wr g M gw gn gl pl L y0 ws s m ns vs o ua uf up vc vq arr) (hk:Mk w0 w' g M ua' uf' up' vc vq { s with ob:=o' }) (hf:MkF wr w' g M ua uf up vc vq ua' uf' up' vc vq):Tl w0 w' g M gw gn gl pl L y0 ws s m ns vs o' ua' uf' up' vc vq arr:=by
 have hw:=h.out gw (.inl rfl)
 have hn:=h.out gn (.inr rfl)
 have k1:=hf.keep h.wb hw.1 hw.2.1 hw.2.2
 have k2:=hf.keep h.nb hn.1 hn.2.1 hn.2.2
 have k3:=fun h0=>hf.keep (h.lb h0).2 (h.outl h0).1 (h.outl h0).2.1 (h.outl h0).2.2
 refine⟨hk,k1.1,h.wc,k2.1,fun h0=>⟨(h.lb h0).1,(k3 h0).1⟩,fun b hb=>?_,fun h0=>⟨(h.outl h0).1,(h.outl h0).2.1,(k3 h0).2⟩,h.ge,h.ne1,h.ne2⟩
 rcases hb with rfl | rfl
 ·exact⟨hw.1,hw.2.1,k1.2⟩
 ·exact⟨hn.1,hn.2.1,k2.2⟩
theorem nums_set (ns:List Int) (m:Nat) (x:Int) (h:ns.length=m) (hm:m<4):((ns ++ List.replicate (4 - m) 0).map (Value.int .i64)).toArray.setIfInBounds m (.int .i64 x)=((ns ++ [x] ++ List.replicate (4 - (m+1)) 0).map (Value.int .i64)).toArray:=by
 subst h
 apply Array.ext'
 rw [Array.toList_setIfInBounds]
 simp only [List.map_append,List.map_replicate,List.map_cons,List.map_nil]
 have e:4 - ns.length=(4 - (ns.length+1))+1:=by omega
 rw [e,List.replicate_succ,List.set_append_right _ _ (by simp)]
 simp
theorem nums_keep (ns:List Int) (m:Nat) (h:ns.length=m) (hm:m<4):ns ++ List.replicate (4 - m) (0:Int)=ns ++ [0] ++ List.replicate (4 - (m+1)) 0:=by
 have e:4 - m=(4 - (m+1))+1:=by omega
 rw [e,List.replicate_succ]
 simp
theorem zp12 (vs ws:List (List UInt8)) (m:Nat) (hm:m<ws.length):vs ++ ws.drop m=vs ++ [ws.getD m []] ++ ws.drop (m+1):=by
 rw [List.drop_eq_getElem_cons hm,List.getD_eq_getElem?_getD,List.getElem?_eq_getElem hm]
 simp
theorem zm17 (vs ws:List (List UInt8)) (a b:List UInt8) (m k:Nat) (hv:vs.length=m) (hk:k≠m):(vs ++ [a] ++ ws).getD k []=(vs ++ [b] ++ ws).getD k []:=by
 simp only [List.getD_eq_getElem?_getD]
 by_cases hlt:k<m
 ·rw [List.append_assoc,List.append_assoc,List.getElem?_append_left (by omega),List.getElem?_append_left (by omega)]
 ·rw [List.getElem?_append_right (by simp;omega),List.getElem?_append_right (by simp;omega)]
  simp
theorem Tl.keep (h:Tl w0 wr g M gw gn gl pl L y0 ws s m ns vs o ua uf up vc vq arr) (hn:ns.length=m) (hm:m<4) (hw:m<ws.length):Tl w0 wr g M gw gn gl pl L y0 ws s (m+1) (ns ++ [0]) (vs ++ [ws.getD m []]) o ua uf up vc vq arr:=
 ⟨h.mm,h.wb,fun k hk=>by rw [← zp12 vs ws m hw];exact h.wc k hk,by rw [← nums_keep ns m hn hm];exact h.nb,h.lb,h.out,h.outl,h.ge,h.ne1,h.ne2⟩
theorem Tl.put (h:Tl w0 wr g M gw gn gl pl L y0 ws s m ns vs o ua uf up vc vq arr) (hn:ns.length=m) (hv:vs.length=m) (hm:m<4) (hw:m<ws.length) (hL:m<L.length) (x:Int) :
  Tl w0 ((wr.setCell ⟨gw,m+1,none⟩ (.string (bs [48]))).setCell ⟨gn,m,none⟩ (.int .i64 x)) g M gw gn gl pl L y0 ws s (m+1) (ns ++ [x]) (vs ++ [[48]]) o ua uf up vc vq (arr.setIfInBounds (m+1) (.string (bs [48]))):=by
 have ow:=h.out gw (.inl rfl)
 have on:=h.out gn (.inr rfl)
 have f2:Fr (fun k=>k=gw ∨ k=gn) wr ((wr.setCell ⟨gw,m+1,none⟩ (.string (bs [48]))).setCell ⟨gn,m,none⟩ (.int .i64 x)):=((Fr.refl _ wr).setCell (p:=⟨gw,m+1,none⟩) (.inl (.inl rfl)) _).setCell (p:=⟨gn,m,none⟩) (.inl (.inr rfl)) _
 have hno:∀ b,(b=gw ∨ b=gn)→b≠g∧b≠M∧¬ OwnK ua uf up vc vq b:=fun b hb=>h.out b hb
 have hbel:Below w0.heap.size w0 ((wr.setCell ⟨gw,m+1,none⟩ (.string (bs [48]))).setCell ⟨gn,m,none⟩ (.int .i64 x)):=(h.mm.below.setCell (p:=⟨gw,m+1,none⟩) h.ge.1 _).setCell (p:=⟨gn,m,none⟩) h.ge.2 _
 refine⟨h.mm.fr f2 (fun e=>(hno g e).1 rfl) (fun e=>(hno M e).2.1 rfl) (fun k hk e=>(hno k e).2.2 (.inl hk)) (fun k hk e=>(hno k e).2.2 (.inr (.inl hk))) (fun k hk e=>(hno k e).2.2 (.inr (.inr (.inl hk)))) (fun k hk e=>(hno k e).2.2 (.inr (.inr (.inr (.inl hk))))) (fun k hk e=>(hno k e).2.2 (.inr (.inr (.inr (.inr hk))))) hbel,
  (h.wb.set_ _ _).far (p:=⟨gn,m,none⟩) h.ne1 _,fun k hk=>?_,?_,fun h0=>⟨(h.lb h0).1,((h.lb h0).2.far (p:=⟨gw,m+1,none⟩) (h.ne2 h0).1.symm _).far (p:=⟨gn,m,none⟩) (h.ne2 h0).2.symm _⟩,h.out,h.outl,h.ge,h.ne1,h.ne2⟩
 ·have hlast:m+1<arr.size:=by
   have:=h.wc (m+1) (by omega)
   exact(Array.getElem?_eq_some_iff.1 this).1
  by_cases hkm:k=m+1
  ·subst hkm
   rw [Array.getElem?_setIfInBounds_self,if_pos hlast,List.getD_cons_succ,List.append_assoc,List.getD_eq_getElem?_getD,List.getElem?_append_right (by omega),hv,Nat.sub_self]
   rfl
  ·rw [Array.getElem?_setIfInBounds_ne (by omega),h.wc k hk]
   congr 2
   rw [zp12 vs ws m hw]
   cases k with
   | zero=>rfl
   | succ k=>
    rw [List.getD_cons_succ,List.getD_cons_succ,zm17 vs (ws.drop (m+1)) (ws.getD m []) [48] m k hv (by omega)]
 ·have:=(h.nb.far (p:=⟨gw,m+1,none⟩) h.ne1.symm (.string (bs [48]))).set_ m (.int .i64 x)
  rw [nums_set ns m x hn hm] at this
  exact this
end
end Go.Proofs.YtlmbiafloiompaaGreatDoor
