/-
  2 texts in one (AOpen CodeGL). Conditions: those of each theorem.
-/
import Derived.Test.YtlmbiafloiompaaGreatDoorCards
import Derived.Test.YtlmbiafloiompaaGreatDoorTie
import Derived.Test.YtlmbiafloiompaaGreatDoorChecked
import Derived.Test.YtlmbiafloiompaaGreatDoorJL06
import Derived.OpenShut
import Derived.Deep.Slices
import Derived.Deep.Fields
import Derived.Carry
import Derived.WideShapes
import Derived.Laws.IdiomArrays
import Derived.Lib.LaidTab
import Derived.LaidSub
import Derived.LaidLaws
import Derived.MakeChecks
import Derived.LaidMore
import Derived.Deep.DeepHandedRow
import Derived.Test.YtlmbiafloiompaaGreatDoorJL04
namespace Go.Proofs.YtlmbiafloiompaaGreatDoor
open Go.ChangeShapes Go.WideShapes Go.ChangeAt Go.RowKit Go.Deep
set_option linter.unusedVariables false
set_option linter.unusedSimpArgs false
instance:Inhabited Ins:=⟨(0,0,0,0,0)⟩
theorem add_spot8 (a:Addr) (n j:Nat) {w:World} {v:Value} (h:w.cell? ((a.add n).add j)=some v) (ha:a.spot=none):w.cell? ⟨a.block,a.off+n+j,none⟩=some v:=by
 have e:(a.add n).add j=⟨a.block,a.off+n+j,none⟩:=by
  obtain⟨b,o,s⟩:=a
  simp only at ha
  subst ha
  unfold Addr.add
  split <;> split <;> simp_all
 rw [← e]
 exact h
theorem zp19 {a:Addr} {W:World} {v:Value} (h:W.cell? (a.add 0)=some v):a.spot=none:=by
 cases hsp:a.spot with
 | none=>rfl
 | some s=>
  exfalso
  have e:a.add 0=a:=by simp [Addr.add]
  rw [e] at h
  unfold World.cell? at h
  rw [hsp] at h
  split at h <;> simp at h
theorem zi13 {α β:Type} (f:α→List β) (m:Nat) (hf:∀ a,(f a).length=m):∀ l:List α,(l.flatMap f).length=l.length * m
 | []=>by simp
 | a :: l=>by rw [List.flatMap_cons,List.length_append,hf,zi13 f m hf l,List.length_cons,Nat.succ_mul,Nat.add_comm]
theorem zj13 {α β:Type} (f:α→β):∀ l:List α,l.flatMap (fun a=>[f a])=l.map f
 | []=>rfl
 | a :: l=>by rw [List.flatMap_cons,zj13 f l];rfl
section
variable {H:Type} {enc:TypeId × Value→H} {W:World}
set_option maxRecDepth 100000 in
theorem rows_in {α:Type} [Inhabited α] (f:α→List Value) (m:Nat) (hf:∀ a,(f a).length=m) (hm:0<m) (Q:α→Prop) {fuel:Nat} {t e:TypeId} {v:Value} {x:DataW H × List MemPlace} (ht:Tryz.prog.underlying t=some (.slice e)) (hc:Tryz.prog.cellsOf e=m)
  (hel:∀ n cs' y,DataW.trod enc Tryz.prog W 0 (fun _=>true) true n e cs'=some y→∃ a,cs'=f a∧Q a)
  (h:DataW.trod enc Tryz.prog W 0 (fun _=>true) true fuel t [v]=some x) :
  ∃ l:List α,CellsAt W v l.length (l.flatMap f)∧(∀ a ∈ l,Q a)∧(∀ k c,v=.slice none k c→c=0)∧l.length≤9223372036854775807:=by
 rcases open_slice ht h with⟨hv,_⟩ | ⟨a,len,cap,m',n,D,Pl,hv,hb,hl,hmx,hmm,_,hx⟩
 ·simp only [List.cons.injEq,and_true] at hv
  subst hv
  exact⟨[],.inl ⟨rfl,rfl,_,_,rfl⟩,by simp,fun k c h=>by injection h with _ _ h3;exact h3.symm,by simp⟩
 ·simp only [List.cons.injEq,and_true] at hv
  subst hv
  have hlm:len≤m':=by rw [hmm];split <;> omega
  have each:∀ i,i<len→∃ z:α,W.cells? 0 (a.add (i * m)) m=some (f z)∧Q z:=fun i hi=>by
   obtain⟨cs',h1,h2⟩:=hx i (by omega)
   rw [hc] at h1
   obtain⟨z,rfl,hq⟩:=hel _ _ _ h2
   exact⟨z,h1,hq⟩
  obtain⟨T,hT⟩:=choose_lt each
  have hll:((List.range len).map T).length=len:=by simp
  refine⟨(List.range len).map T,?_,?_,fun k c h=>(by injection h with h1;cases h1),by rw [hll];unfold maxLen at hmx;omega⟩
  ·by_cases h0:len=0
   ·subst h0
    exact .inl ⟨rfl,rfl,_,_,rfl⟩
   ·obtain⟨_,_,hat0⟩:=World.cells?_some (hT 0 (by omega)).1
    have hs0:a.spot=none:=by
     have:=hat0 0 (by omega)
     rw [List.getElem?_eq_getElem (by rw [hf];omega)] at this
     have e:(a.add (0 * m)).add 0=a.add 0:=by simp [Addr.add]
     rw [e] at this
     exact zp19 this
    have hcell:∀ i,i<len→∀ j,j<m→∃ u,(f (T i))[j]?=some u∧W.cell? ⟨a.block,a.off+i * m+j,none⟩=some u:=fun i hi j hj=>by
     obtain⟨_,_,hat⟩:=World.cells?_some (hT i hi).1
     have:=hat j (by omega)
     rw [List.getElem?_eq_getElem (by rw [hf];omega)] at this
     exact⟨_,List.getElem?_eq_getElem (by rw [hf];omega),add_spot8 a (i * m) j this hs0⟩
    refine .inr ⟨a.block,a.off,cap,?_,?_,fun k u hk=>?_⟩
    ·rw [hll]
     obtain⟨b,o,sp⟩:=a
     simp only at hs0
     subst hs0
     rfl
    ·obtain⟨u,_,hu⟩:=hcell 0 (by omega) 0 hm
     have:=World.block_lt_of_cell? W _ hu
     exact this
    ·have hkl:=(List.getElem?_eq_some_iff.1 hk).1
     have hlen:(((List.range len).map T).flatMap f).length=len * m:=by rw [zi13 f m hf,hll]
     rw [hlen] at hkl
     have hdm:k / m * m+k % m=k:=by rw [Nat.mul_comm];exact Nat.div_add_mod k m
     have hi:k / m<len:=by
      rw [Nat.div_lt_iff_lt_mul hm]
      exact hkl
     have hj:k % m<m:=Nat.mod_lt _ hm
     obtain⟨u2,hu1,hu2⟩:=hcell (k / m) hi (k % m) hj
     have hfa:=zy3 f m hf ((List.range len).map T) (k / m) (T (k / m)) (by simp [hi]) (k % m) hj
     rw [hdm,hk,hu1] at hfa
     have e:u=u2:=by simpa using hfa
     rw [e,← hu2]
     congr 2
     omega
  ·intro z hz
   obtain⟨i,hi,rfl⟩:=List.mem_map.1 hz
   exact(hT i (List.mem_range.1 hi)).2
theorem zc13:Tryz.prog.cellsOf 9=1:=by kernel_rfl
theorem str_in {fuel:Nat} {cs:List Value} {x:DataW H × List MemPlace} (h:DataW.trod enc Tryz.prog W 0 (fun _=>true) true fuel 9 cs=some x):∃ s:ByteArray,cs=[.string s]∧s.size≤maxLen:=by
 obtain⟨s,hs,_,hss⟩:=DataW.trod_string Tryz.underlying9 h
 exact⟨s,hs,hss⟩
theorem strs_in {fuel:Nat} {v:Value} {x:DataW H × List MemPlace} (h:DataW.trod enc Tryz.prog W 0 (fun _=>true) true fuel 22 [v]=some x) :
  ∃ l:List ByteArray,AtomsAt W v l∧(∀ s ∈ l,s.size≤maxLen)∧l.length≤9223372036854775807:=by
 obtain⟨la,ha,qa,na,ka⟩:=rows_in (fun s:ByteArray=>[Value.string s]) 1 (fun _=>rfl) (by omega) (fun s=>s.size≤maxLen) Tryz.underlying22 zc13 (fun n cs' y h=>str_in h) h
 exact⟨la,by unfold AtomsAt;rw [← zj13];exact ha,qa,ka⟩
end
end Go.Proofs.YtlmbiafloiompaaGreatDoor

namespace Go.Proofs.YtlmbiafloiompaaGreatDoor
open Go Go.RowKit Go.WideShapes Go.ChangeShapes
set_option linter.unusedVariables false
theorem zt8 (s:ByteArray) (hs:s.size≤8400000) (h:∀ v,Lib.atoiAll s.data.toList≠.ok v) (w:World) {B:Nat} (hL:LaidC B w) :
  Calls Tryz.prog 133 #[.string s] w fun e w'=>∃ v N,e=.returned (.tuple #[.int .i64 v,.iface 249 (.pointer (some ⟨N,0,none⟩))])∧Below w.heap.size w w':=by
 rcases h':Lib.atoiAll s.data.toList with v | _ | _
 ·exact absurd h' (h v)
 ·obtain⟨te,pe,hev⟩:=hL.syn
  refine Calls.mono (Any.strconv_Atoi_syntax Tryz.laysC172 s (by omega) h' _ w hev (.inr ⟨te,pe,rfl⟩)) ?_
  rintro e w' ⟨N,rfl,_,_,hb⟩
  exact⟨_,N,rfl,hb⟩
 ·obtain⟨te,pe,hev⟩:=hL.ran
  refine Calls.mono (Any.strconv_Atoi_range Tryz.laysC172 s (by omega) h' _ w hev (.inr ⟨te,pe,rfl⟩)) ?_
  rintro e w' ⟨N,rfl,_,_,hb⟩
  exact⟨_,N,rfl,hb⟩
set_option maxHeartbeats 84000000 in
theorem zq15 (kind:Int) (s:ByteArray) (hs:s.size≤8400000) (w:World) {B:Nat} (hp:LaidC B w) :
  Calls Tryz.prog 110 #[.int .i64 kind,.string s] w (NumRes w (numOf kind s.data.toList)):=by
 by_cases h45:s=⟨#[45]⟩
 ·subst h45
  go_enter Tryz.func110,Tryz.ntmps110
  go_wp2
  go_ret2
  exact⟨65535,rfl,fun v hv=>by simpa [numOf] using hv,Below.refl _ _⟩
 ·have hne:=zt2 h45
  have hnl:¬ s.data.toList=[45]:=fun e=>h45 (by rw [← str_bs s,e];rfl)
  obtain⟨t,ht⟩:∃ t,bs (Lib.trimLeftS s.data.toList [88,89])=t:=⟨_,rfl⟩
  have htl:t.data.toList=Lib.trimLeftS s.data.toList [88,89]:=by rw [← ht,zw3]
  have hts:t.size≤8400000:=by
   have:=trim_len s.data.toList
   rw [← ht,zx3]
   have h2:s.data.toList.length=s.size:=by rw [Array.length_toList];rfl
   omega
  have htr:=fun w=>trim_any s w
  rw [ht] at htr
  have HTR:=hD htr
  have HP:=hD hp
  have hnum:numOf kind s.data.toList=match Lib.atoiAll t.data.toList with
    | .ok v=>some (if kind=1∧Lib.hasPrefix s.data.toList [89]=true then wrap64 (v+16) else v)
    | _=>none:=by rw [numOf,if_neg hnl,htl];rfl
  have HNUM:=hD hnum
  have hne':(s.toList == [45])=false:=by
   rw [beq_eq_false_iff_ne,ByteArray.toList_eq]
   exact hnl
  clear htr hp ht htl hnum h45 hnl hne
  by_cases hok:∃ v,Lib.atoiAll t.data.toList=.ok v
  ·obtain⟨v,hv⟩:=hok
   have hn2:numOf kind s.data.toList=some (if kind=1∧Lib.hasPrefix s.data.toList [89]=true then wrap64 (v+16) else v):=by rw [HNUM.out,hv]
   have HV:=hD hv
   have HN2:=hD hn2
   clear hv hn2 HNUM
   by_cases h1:kind=1
   ·subst h1
    have hpf:=fun w=>zh11 s w
    cases hpr:Lib.hasPrefix s.data.toList [89]
    ·rw [hpr] at hpf
     have HPF:=hD hpf
     have HPR:=hD hpr
     clear hpf hpr
     go_enter Tryz.func110,Tryz.ntmps110
     go_wp2_with fail
     refine(HTR.out _).mono ?_
     rintro e w2 ⟨rfl,hb⟩
     go_wp2_with fail
     refine(Tryz.strconv_Atoi_ok t (by omega) v HV.out _).mono ?_
     rintro e w3 ⟨rfl,hw3⟩
     have HB:=hD (hb.trans ((zq2 hw3).mono hb.size))
     clear hb hw3
     go_wp2_with fail
     refine(HPF.out _).mono ?_
     rintro e w' ⟨rfl,rfl⟩
     go_wp2
     go_quiet (fail)
     go_wp2
     go_ret2
     exact zj12 (HN2.out.trans (by rw [HPR.out];rfl)) (zx HB.out _)
    ·rw [hpr] at hpf
     have HPF:=hD hpf
     have HPR:=hD hpr
     clear hpf hpr
     go_enter Tryz.func110,Tryz.ntmps110
     go_wp2_with fail
     refine(HTR.out _).mono ?_
     rintro e w2 ⟨rfl,hb⟩
     go_wp2_with fail
     refine(Tryz.strconv_Atoi_ok t (by omega) v HV.out _).mono ?_
     rintro e w3 ⟨rfl,hw3⟩
     have HB:=hD (hb.trans ((zq2 hw3).mono hb.size))
     clear hb hw3
     go_wp2_with fail
     refine(HPF.out _).mono ?_
     rintro e w' ⟨rfl,rfl⟩
     go_wp2
     go_quiet (fail)
     go_wp2
     go_ret2
     exact zj12 (HN2.out.trans (by rw [HPR.out];rfl)) (zx HB.out _)
   ·have h1':(kind == 1)=false:=by simpa using h1
    have hn3:numOf kind s.data.toList=some v:=by rw [HN2.out,if_neg (fun x=>h1 x.1)]
    have HN3:=hD hn3
    clear h1 hn3 HN2
    go_enter Tryz.func110,Tryz.ntmps110
    go_wp2_with fail
    refine(HTR.out _).mono ?_
    rintro e w2 ⟨rfl,hb⟩
    go_wp2_with fail
    refine(Tryz.strconv_Atoi_ok t (by omega) v HV.out _).mono ?_
    rintro e w3 ⟨rfl,hw3⟩
    have HB:=hD (hb.trans ((zq2 hw3).mono hb.size))
    clear hb hw3
    go_wp2
    go_quiet (fail)
    go_wp2
    go_ret2
    exact zj12 HN3.out (zx HB.out _)
  ·have hbad:∀ v,Lib.atoiAll t.data.toList≠.ok v:=fun v h=>hok ⟨v,h⟩
   have hn2:numOf kind s.data.toList=none:=by
    rw [HNUM.out]
    rcases h:Lib.atoiAll t.data.toList with v | _ | _
    ·exact absurd h (hbad v)
    ·rfl
    ·rfl
   have HBAD:=hD hbad
   have HN2:=hD hn2
   clear hbad hn2 hok HNUM
   have hpf:=fun w=>zh11 s w
   obtain⟨pf,hpe⟩:∃ pf,Lib.hasPrefix s.data.toList [89]=pf:=⟨_,rfl⟩
   rw [hpe] at hpf
   have HPF:=hD hpf
   clear hpf hpe
   by_cases h1:kind=1
   ·subst h1
    cases pf
    all_goals
     go_enter Tryz.func110,Tryz.ntmps110
     go_wp2_with fail
     refine(HTR.out _).mono ?_
     rintro e w2 ⟨rfl,hb⟩
     go_wp2_with fail
     refine(zt8 t hts HBAD.out _ (HP.out.up hb)).mono ?_
     rintro e w3 ⟨v,N,rfl,hw3⟩
     have HB:=hD (hb.trans (hw3.mono hb.size))
     clear hb hw3
     go_wp2_with fail
     refine(HPF.out _).mono ?_
     rintro e w' ⟨rfl,rfl⟩
     go_wp2
     go_quiet (fail)
     go_wp2
     go_ret2
     exact zl17 HN2.out (zx HB.out _)
   ·have h1':(kind == 1)=false:=by simpa using h1
    clear h1
    go_enter Tryz.func110,Tryz.ntmps110
    go_wp2_with fail
    refine(HTR.out _).mono ?_
    rintro e w2 ⟨rfl,hb⟩
    go_wp2_with fail
    refine(zt8 t hts HBAD.out _ (HP.out.up hb)).mono ?_
    rintro e w3 ⟨v,N,rfl,hw3⟩
    have HB:=hD (hb.trans (hw3.mono hb.size))
    clear hb hw3
    go_wp2
    go_quiet (fail)
    go_wp2
    go_ret2
    exact zl17 HN2.out (zx HB.out _)
end Go.Proofs.YtlmbiafloiompaaGreatDoor
