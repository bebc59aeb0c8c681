/-
 The program's Parse: by its plain words,in whatever world that holds what it reads. Condition: a text of no more than 8400000 bytes.
-/
import Derived.Test.YtlmbiafloiompaaGreatDoorJO04
import Derived.Test.YtlmbiafloiompaaGreatDoorJO07
import Derived.Laws.AppendOwn
import Derived.Laws.OwnMore
set_option linter.unusedVariables false
namespace Go.Proofs.YtlmbiafloiompaaGreatDoor
open Go Go.RowKit Go.WideShapes Go.ChangeShapes
def ParseRes (w:World) (r:Option (Int × List Int)) (e:Ending) (w':World):Prop:=
 e=.returned (match r with
  | some (op,l)=>.tuple #[insV op (l.getD 0 0) (l.getD 1 0) (l.getD 2 0) (l.getD 3 0),.int .i64 0]
  | none=>.tuple #[insV 0 0 0 0 0,.int .i64 17])∧Below w.heap.size w w'
structure SplAt (B0:Nat) (w0:World) (W:List ByteArray) (w:World):Prop where
 res:Box w w0.heap.size 65 #[.int .i64 0,.int .i64 0,.int .i64 0,.int .i64 0,.int .i64 0]
 words:∀ k,k<W.length→w.cell? ⟨w0.heap.size+1,k,none⟩=some (.string (W.getD k ⟨#[]⟩))
 laid:LaidC B0 w
 base:B0≤w0.heap.size
 below:Below w0.heap.size w0 w
theorem SplAt.up' {B0 K:Nat} {w0 w w':World} {W:List ByteArray} (h:SplAt B0 w0 W w) (hb:Below K w w') (hK:w0.heap.size+1<K):SplAt B0 w0 W w':=
 ⟨h.res.below hb (by omega),fun k hk=>(hb.cell (p:=⟨w0.heap.size+1,k,none⟩) hK).trans (h.words k hk),h.laid.below hb (by have:=h.base;omega),h.base,h.below.trans (hb.mono (by omega))⟩
theorem zj2 {P:Program} {fn:Func} {R:Ending→World→Prop} {T:Array Value} {w2:World} {G:Nat} {t:TypeId} {z0 z1 z2 z3 z4 a b c d f x:Value} (hb:Box w2 G t #[z0,z1,z2,z3,z4])
  (hres:∀ W:World,W.cell? ⟨G,0,none⟩=some a→W.cell? ⟨G,1,none⟩=some b→W.cell? ⟨G,2,none⟩=some c→W.cell? ⟨G,3,none⟩=some d→W.cell? ⟨G,4,none⟩=some f→(results fn T).run P W=.ok (.tuple #[.agg #[a,b,c,d,f],x]) W)
  (hQ:∀ W:World,Box W G t #[a,b,c,d,f]→Below G w2 W→R (.returned (.tuple #[.agg #[a,b,c,d,f],x])) W) :
  bodyPost P fn R .ret { tmps:=T,defers:=[] } (((((w2.setCell ⟨G,0,none⟩ a).setCell ⟨G,1,none⟩ b).setCell ⟨G,2,none⟩ c).setCell ⟨G,3,none⟩ d).setCell ⟨G,4,none⟩ f):=by
 have h5:Box (((((w2.setCell ⟨G,0,none⟩ a).setCell ⟨G,1,none⟩ b).setCell ⟨G,2,none⟩ c).setCell ⟨G,3,none⟩ d).setCell ⟨G,4,none⟩ f) G t #[a,b,c,d,f]:=by
  have:=((((hb.set_ 0 a).set_ 1 b).set_ 2 c).set_ 3 d).set_ 4 f
  simpa using this
 have hf:Below G w2 (((((w2.setCell ⟨G,0,none⟩ a).setCell ⟨G,1,none⟩ b).setCell ⟨G,2,none⟩ c).setCell ⟨G,3,none⟩ d).setCell ⟨G,4,none⟩ f):=
  (((((Below.refl G w2).setCell (p:=⟨G,0,none⟩) (Nat.le_refl _) _).setCell (p:=⟨G,1,none⟩) (Nat.le_refl _) _).setCell (p:=⟨G,2,none⟩) (Nat.le_refl _) _).setCell (p:=⟨G,3,none⟩) (Nat.le_refl _) _).setCell (p:=⟨G,4,none⟩) (Nat.le_refl _) _
 exact bodyPost_ret (hres _ (h5.cell 0) (h5.cell 1) (h5.cell 2) (h5.cell 3) (h5.cell 4)) rfl (hQ _ h5 hf)
theorem zi5 {w w':World} {r:Option (Int × List Int)} (h:r=none) (hb:Below w.heap.size w w'):ParseRes w r (.returned (.tuple #[insV 0 0 0 0 0,.int .i64 17])) w':=by
 subst h
 exact⟨rfl,hb⟩
theorem zz14 {w w':World} {r:Option (Int × List Int)} {op:Int} {L:List Int} (h:r=some (op,padded L)) (hb:Below w.heap.size w w') :
  ParseRes w r (.returned (.tuple #[insV op (L.getD 0 0) (L.getD 1 0) (L.getD 2 0) (L.getD 3 0),.int .i64 0])) w':=by
 subst h
 exact⟨rfl,hb⟩
theorem zh16:(Tryz.prog.info? 3).map (fun i=>(i.zero,i.size,i.bytes))=some (some (.int .i64 0),1,8):=by kernel_rfl
theorem zy14 {w:World} {base:Nat} {e:TypeId} {size n j:Nat} {v:Value} {xs:List Value} (h:w.ownsRow base e size v n xs) (he:v.ownBlock=some j):base≤j:=by
 rcases h.2 with⟨rfl,_⟩ | ⟨g,cap,cur,rfl,hg,_⟩
 ·simp [Value.ownBlock] at he
 ·have:g=j:=by simpa [Value.ownBlock] using he
  omega
theorem zj16 {w:World} {base:Nat} {v:Value} {L:List Int} (h:w.ownsRow base 3 1 v L.length (L.map (Value.int .i64))):IntsAt w v L:=by
 rcases h.2 with⟨rfl,h0⟩ | ⟨g,cap,cur,rfl,hg,hb,hc,_,hs,ht⟩
 ·exact .inl ⟨List.eq_nil_of_length_eq_zero h0,_,_,rfl⟩
 ·refine .inr ⟨g,0,cap,rfl,fun k hk=>?_⟩
  have h1:cur.toList[k]?=(cur.toList.take (L.length * 1))[k]?:=by rw [List.getElem?_take,if_pos (by omega)]
  rw [Nat.zero_add,cell_of_row w g k cur 3 (0,0) hb,← Array.getElem?_toList,h1,ht,List.getElem?_map,List.getD_eq_getElem?_getD,List.getElem?_eq_getElem hk]
  rfl
theorem zx10 (s:ByteArray):∃ W:List ByteArray,Lib.splitB ⟨#[32]⟩ 0 (min 6 (s.size+1) - 1) s=W∧W.map (·.data.toList)=wordsOf s.data.toList∧0<W.length∧W.length≤6∧W.length≤min 6 (s.size+1)∧∀ b ∈ W,b.size≤s.size:=by
 refine⟨_,rfl,?_,?_,?_,?_,?_⟩
 ·rw [Lib.splitB_data,wordsOf]
  have:s.data.toList.length=s.size:=by rw [Array.length_toList];rfl
  rw [this]
 ·generalize min 6 (s.size+1) - 1=k
  cases k with
  | zero=>simp [Lib.splitB]
  | succ k=>rw [Lib.splitB];split <;> simp
 ·have:=Lib.splitB_length_le ⟨#[32]⟩ 0 (min 6 (s.size+1) - 1) s
  omega
 ·have:=Lib.splitB_length_le ⟨#[32]⟩ 0 (min 6 (s.size+1) - 1) s
  omega
 ·generalize min 6 (s.size+1) - 1=k
  induction k generalizing s with
  | zero=>intro b hb;simp [Lib.splitB] at hb;subst hb;exact Nat.le_refl _
  | succ k ih=>
   intro b hb
   rw [Lib.splitB] at hb
   split at hb
   ·simp at hb;subst hb;exact Nat.le_refl _
   ·rcases List.mem_cons.1 hb with rfl | hb
    ·rw [ByteArray.size_extract];omega
    ·have:=ih _ b hb
     rw [ByteArray.size_extract] at this
     omega
theorem zl9 (W:List ByteArray) (N:Nat) (h:W.length≤N) (k:Nat) (hk:k<W.length):(Lib.cellsOf W N)[k]?=some (.string (W.getD k ⟨#[]⟩)):=by
 unfold Lib.cellsOf
 rw [List.getElem?_toArray,List.getElem?_append_left (by simpa using hk),List.getElem?_map,List.getElem?_eq_getElem hk,List.getD_eq_getElem?_getD,List.getElem?_eq_getElem hk]
 rfl
theorem zr10 (s:ByteArray) (hs:s.size≤8400000) (W:List ByteArray) (hW:Lib.splitB ⟨#[32]⟩ 0 (min 6 (s.size+1) - 1) s=W) (w:World) {B:Nat} (hp:LaidC B w) :
  Calls Tryz.prog 78 #[.string s,.string ⟨#[32]⟩,.int .i64 6] w fun e w'=>
   e=.returned (.slice (some ⟨w.heap.size,0,none⟩) W.length (min 6 (s.size+1)))∧w.alloc (.cells (Lib.cellsOf W (min 6 (s.size+1))) 9)=w':=by
 obtain⟨m,hm⟩:=hp.len
 have h:=Tryz.strings_SplitN s ⟨#[32]⟩ 6 m w (by omega) hm (by decide) (by omega) (by omega)
 rw [hW] at h
 exact h.mono fun e w' hx=>⟨hx.1,hx.2.symm⟩
theorem zq15 {B:Nat} {w:World} (s:ByteArray) (W:List ByteArray) (hlen:W.length≤min 6 (s.size+1)) (hp:LaidC B w) :
  SplAt B w W ((w.alloc (.cells #[.int .i64 0,.int .i64 0,.int .i64 0,.int .i64 0,.int .i64 0] 65)).alloc (.cells (Lib.cellsOf W (min 6 (s.size+1))) 9)):=by
 have hb:=za1 w (.cells #[.int .i64 0,.int .i64 0,.int .i64 0,.int .i64 0,.int .i64 0] 65) (.cells (Lib.cellsOf W (min 6 (s.size+1))) 9)
 refine⟨(Box.new w _ _).alloc _,fun k hk=>?_,hp.up hb,hp.size,hb⟩
 have h:=Box.new (w.alloc (.cells #[.int .i64 0,.int .i64 0,.int .i64 0,.int .i64 0,.int .i64 0] 65)) 9 (Lib.cellsOf W (min 6 (s.size+1)))
 rw [show(w.alloc (.cells #[.int .i64 0,.int .i64 0,.int .i64 0,.int .i64 0,.int .i64 0] 65)).heap.size=w.heap.size+1 by simp] at h
 exact(h.cell k).trans (zl9 W _ hlen k hk)
set_option maxRecDepth 100000 in
set_option maxHeartbeats 4000000 in
theorem zl20 (s:ByteArray) (hs:s.size≤8400000) (op:Int) (hop:namedOf (bs ((wordsOf s.data.toList).getD 0 []))=op) (ho:opsOf op=[]) (w:World) {B:Nat} (hp:LaidC B w) :
  Calls Tryz.prog 83 #[.string s] w (ParseRes w (parseP s.data.toList)):=by
 obtain⟨W,hW,hmap,hW0,hW6,hWN,hWs⟩:=zx10 s
 have hget:∀ k,k<W.length→(W.getD k ⟨#[]⟩).data.toList=(wordsOf s.data.toList).getD k []:=fun k hk=>by
  rw [← hmap,List.getD_eq_getElem?_getD,List.getD_eq_getElem?_getD,List.getElem?_map,List.getElem?_eq_getElem hk]
  rfl
 have hw0:namedOf (W.getD 0 ⟨#[]⟩)=op:=by rw [← hop,← hget 0 hW0,str_bs]
 have hlen:(wordsOf s.data.toList).length=W.length:=by rw [← hmap,List.length_map]
 have hparse:parseP s.data.toList=if op<0 ∨ W.length - 1≠(opsOf op).length then none
   else match numsUpto (numAt op (wordsOf s.data.toList)) (opsOf op).length with
    | none=>none
    | some L=>if textOf op (padded L)=s.data.toList then some (op,padded L) else none:=by
  unfold parseP
  rw [hop,hlen]
  rfl
 have hspl:=zq15 s W hWN hp
 have hsplit:=zr10 s hs W hW
 have hname:=fun w (hw:NamesAt w)=>zs9 (W.getD 0 ⟨#[]⟩) w hw
 rw [hw0] at hname
 have HO:=hD (fun w=>zh3 op ho w)
 have HHO:=hD ho
 clear ho
 have HNAME:=hD hname
 have HSPLIT:=hD (hsplit (w.alloc (.cells #[.int .i64 0,.int .i64 0,.int .i64 0,.int .i64 0,.int .i64 0] 65)) (hp.up (za w _)))
 have HSPL:=hD hspl
 have HPARSE:=hD hparse
 have HGET:=hD hget
 have HWS:=hD hWs
 generalize min 6 (s.size+1)=N at HSPLIT HSPL
 clear hp hop hW hmap hw0 hlen hparse hspl hsplit hname hget hWs hWN
 go_enter Tryz.func83,Tryz.ntmps83
 go_wp2_with fail
 refine HSPLIT.out.mono ?_
 rintro e w2 ⟨rfl,hw2⟩
 have hs2:SplAt B w W w2:=by rw [← hw2];exact HSPL.out
 have hsz2:w.heap.size+1<w2.heap.size:=by rw [← hw2];simp
 have hcell0:=hs2.words 0 hW0
 rw [show(w.alloc (.cells #[.int .i64 0,.int .i64 0,.int .i64 0,.int .i64 0,.int .i64 0] 65)).heap.size=w.heap.size+1 by simp]
 have HS2:=hD hs2
 clear hw2 hs2
 obtain⟨x0,hx0⟩:∃ x,W.getD 0 ⟨#[]⟩=x:=⟨_,rfl⟩
 rw [hx0] at hcell0 HNAME
 clear hx0
 go_wp2_with fail
 refine(HNAME.out _ HS2.out.laid.names).mono ?_
 rintro e w' ⟨rfl,rfl⟩
 clear hcell0
 go_wp2_with fail
 refine(HO.out _).mono ?_
 rintro e w' ⟨rfl,rfl⟩
 by_cases hbad:op<0 ∨ W.length - 1≠0
 ·have hnone:parseP s.data.toList=none:=by rw [HPARSE.out,HHO.out];exact if_pos hbad
  have HNONE:=hD hnone
  have hz:=HS2.out.res
  have z0:=hz.cell 0
  have z1:=hz.cell 1
  have z2:=hz.cell 2
  have z3:=hz.cell 3
  have z4:=hz.cell 4
  have y0:=hz.frozen 0
  have y1:=hz.frozen 1
  have y2:=hz.frozen 2
  have y3:=hz.frozen 3
  have y4:=hz.frozen 4
  clear hz
  clear hnone
  by_cases hneg:op<0
  ·clear hbad
   go_wp2
   exact zj2 HS2.out.res (fun W h0 h1 h2 h3 h4=>by simp [results,Tryz.results83,go_sem,h0,h1,h2,h3,h4]) (fun W hb hf=>zi5 HNONE.out (HS2.out.below.trans hf))
  ·have h0:0≤op:=by omega
   have hne:((W.length:Int) - 1 != 0)=true:=by
    rw [bne_iff_ne]
    omega
   clear hbad
   go_wp2
   exact zj2 HS2.out.res (fun W h0 h1 h2 h3 h4=>by simp [results,Tryz.results83,go_sem,h0,h1,h2,h3,h4]) (fun W hb hf=>zi5 HNONE.out (HS2.out.below.trans hf))
 ·have h0:0≤op:=by omega
  have hW1:W.length=1:=by omega
  have hpl:parseP s.data.toList=if textOf op (padded [])=s.data.toList then some (op,padded []) else none:=by
   rw [HPARSE.out,HHO.out]
   exact if_neg hbad
  obtain⟨L,hL⟩:∃ L:List Int,L=[]:=⟨_,rfl⟩
  rw [← hL] at hpl
  have HPL:=hD hpl
  have HL:=hD hL
  have hne:((W.length:Int) - 1 != 0)=false:=by
   rw [bne_eq_false_iff_eq]
   omega
  clear hbad hpl hL hW1
  go_wp2
  go_loop [7,34] (fun v i=>v=.slice none 0 0∧i=.int .i64 0) (fun _ _=>0)
  case atStart=>exact⟨rfl,rfl⟩
  case round=>
   obtain⟨rfl,rfl⟩:=hrel
   obtain⟨wr,hwr⟩:∃ wr,w2=wr:=⟨_,rfl⟩
   subst hwr
   have HSR:=HS2
   have HLT:=hD hsz2
   have HINTS:Hid (IntsAt w2 (.slice none 0 0) L):=hD (.inl ⟨HL.out,_,_,rfl⟩)
   clear hsz2
   obtain⟨a0,ha0⟩:∃ x,L.getD 0 0=x:=⟨_,rfl⟩
   obtain⟨a1,ha1⟩:∃ x,L.getD 1 0=x:=⟨_,rfl⟩
   obtain⟨a2,ha2⟩:∃ x,L.getD 2 0=x:=⟨_,rfl⟩
   obtain⟨a3,ha3⟩:∃ x,L.getD 3 0=x:=⟨_,rfl⟩
   have hpad:padded L=[a0,a1,a2,a3]:=by rw [padded,ha0,ha1,ha2,ha3]
   have hmake:=zj18 op L _ w2 HINTS.out
   rw [ha0,ha1,ha2,ha3] at hmake
   have htext:=fun(w':World) (hp:LaidC B w')=>zb19 op a0 a1 a2 a3 w' hp
   have hyes:∀ (w':World),textOf op [a0,a1,a2,a3]=s.data.toList→Below w.heap.size w w'→ParseRes w (parseP s.data.toList) (.returned (.tuple #[insV op a0 a1 a2 a3,.int .i64 0])) w':=fun w' ht hb=>by
    have h:=zz14 (L:=L) (op:=op) (HPL.out.trans (by rw [hpad,if_pos ht])) hb
    rw [ha0,ha1,ha2,ha3] at h
    exact h
   have hno:¬ textOf op [a0,a1,a2,a3]=s.data.toList→parseP s.data.toList=none:=fun ht=>HPL.out.trans (by rw [hpad,if_neg ht])
   unfold insV at hmake htext
   have HMAKE:=hD hmake
   have HTEXT:=hD htext
   have HYES:=hD hyes
   have HNO:=hD hno
   clear ha0 ha1 ha2 ha3 hpad hmake htext hyes hno
   go_wp2_with fail
   (with_reducible refine HMAKE.out.mono ?_)
   rintro e w3 ⟨rfl,hb3⟩
   have hs3:=HSR.out.up' hb3 HLT.out
   have hlt3:w.heap.size+1<w3.heap.size:=Nat.lt_of_lt_of_le HLT.out hb3.size
   have hs4:=hs3.up' (za w3 (.cells #[.int .i64 op,.int .i64 a0,.int .i64 a1,.int .i64 a2,.int .i64 a3] 65)) hlt3
   have hbx4:=Box.new w3 65 #[.int .i64 op,.int .i64 a0,.int .i64 a1,.int .i64 a2,.int .i64 a3]
   have HS4:=hD hs4
   have HLT3:=hD hlt3
   have HBX4:=hD hbx4
   clear hb3 hs3 hs4 hbx4 hlt3
   go_wp2_with fail
   by_cases ht:textOf op [a0,a1,a2,a3]=s.data.toList
   ·have hte:=HTEXT.out _ HS4.out.laid
    rw [ht,str_bs] at hte
    have HY:=hD (fun w'=>HYES.out w' ht)
    have HTE:=hD hte
    clear hte ht
    refine HTE.out.mono ?_
    rintro e w5 ⟨rfl,hb5⟩
    have hs5:=HS4.out.up' hb5 (by have:=HLT3.out;simp;omega)
    have hbx5:=HBX4.out.below hb5 HBX4.out.lt
    have c0:=hbx5.cell 0
    have c1:=hbx5.cell 1
    have c2:=hbx5.cell 2
    have c3:=hbx5.cell 3
    have c4:=hbx5.cell 4
    have z0:=hs5.res.cell 0
    have z1:=hs5.res.cell 1
    have z2:=hs5.res.cell 2
    have z3:=hs5.res.cell 3
    have z4:=hs5.res.cell 4
    have y0:=hs5.res.frozen 0
    have y1:=hs5.res.frozen 1
    have y2:=hs5.res.frozen 2
    have y3:=hs5.res.frozen 3
    have y4:=hs5.res.frozen 4
    have HS5:=hD hs5
    clear hb5 hs5 hbx5
    go_wp2
    exact zj2 HS5.out.res (fun W h0 h1 h2 h3 h4=>by simp [results,Tryz.results83,go_sem,h0,h1,h2,h3,h4]) (fun W hb hf=>HY.out _ (HS5.out.below.trans hf))
   ·have hte:=HTEXT.out _ HS4.out.laid
    have HN:=hD (HNO.out ht)
    have hne:¬ bs (textOf op [a0,a1,a2,a3])=s:=fun e=>ht (by rw [← e,za4])
    generalize bs (textOf op [a0,a1,a2,a3])=T at hte hne
    have hne2:=zz1 hne
    have HTE:=hD hte
    clear hte ht hne
    refine HTE.out.mono ?_
    rintro e w5 ⟨rfl,hb5⟩
    have hs5:=HS4.out.up' hb5 (by have:=HLT3.out;simp;omega)
    have z0:=hs5.res.cell 0
    have z1:=hs5.res.cell 1
    have z2:=hs5.res.cell 2
    have z3:=hs5.res.cell 3
    have z4:=hs5.res.cell 4
    have y0:=hs5.res.frozen 0
    have y1:=hs5.res.frozen 1
    have y2:=hs5.res.frozen 2
    have y3:=hs5.res.frozen 3
    have y4:=hs5.res.frozen 4
    have HS5:=hD hs5
    clear hb5 hs5
    go_wp2
    exact zj2 HS5.out.res (fun W h0 h1 h2 h3 h4=>by simp [results,Tryz.results83,go_sem,h0,h1,h2,h3,h4]) (fun W hb hf=>zi5 HN.out (HS5.out.below.trans hf))
set_option maxRecDepth 100000 in
set_option maxHeartbeats 4000000 in
theorem zm20 (s:ByteArray) (hs:s.size≤8400000) (op:Int) (hop:namedOf (bs ((wordsOf s.data.toList).getD 0 []))=op) (n:Nat) (hn:(opsOf op).length=n) (hn0:0<n) (w:World) {B:Nat} (hp:LaidC B w) :
  Calls Tryz.prog 83 #[.string s] w (ParseRes w (parseP s.data.toList)):=by
 obtain⟨W,hW,hmap,hW0,hW6,hWN,hWs⟩:=zx10 s
 have hget:∀ k,k<W.length→(W.getD k ⟨#[]⟩).data.toList=(wordsOf s.data.toList).getD k []:=fun k hk=>by
  rw [← hmap,List.getD_eq_getElem?_getD,List.getD_eq_getElem?_getD,List.getElem?_map,List.getElem?_eq_getElem hk]
  rfl
 have hw0:namedOf (W.getD 0 ⟨#[]⟩)=op:=by rw [← hop,← hget 0 hW0,str_bs]
 have hlen:(wordsOf s.data.toList).length=W.length:=by rw [← hmap,List.length_map]
 have hparse:parseP s.data.toList=if op<0 ∨ W.length - 1≠(opsOf op).length then none
   else match numsUpto (numAt op (wordsOf s.data.toList)) (opsOf op).length with
    | none=>none
    | some L=>if textOf op (padded L)=s.data.toList then some (op,padded L) else none:=by
  unfold parseP
  rw [hop,hlen]
  rfl
 have hspl:=zq15 s W hWN hp
 have hsplit:=zr10 s hs W hW
 have hname:=fun w (hw:NamesAt w)=>zs9 (W.getD 0 ⟨#[]⟩) w hw
 rw [hw0] at hname
 have HO:=hD (fun w=>zi3 op n hn hn0 w)
 have HLEN:=hD hn
 have hn4:n≤4:=by have:=zv1 op;omega
 have hop0:0≤op:=by
  by_cases h:0≤op∧op≤26
  ·exact h.1
  ·have he:opsOf op=[]:=by
    unfold opsOf
    repeat rw [if_neg (by omega)]
   rw [he] at hn
   simp at hn
   omega
 clear hn hn0
 have HNAME:=hD hname
 have HSPLIT:=hD (hsplit (w.alloc (.cells #[.int .i64 0,.int .i64 0,.int .i64 0,.int .i64 0,.int .i64 0] 65)) (hp.up (za w _)))
 have HSPL:=hD hspl
 have HPARSE:=hD hparse
 have HGET:=hD hget
 have HWS:=hD hWs
 generalize min 6 (s.size+1)=N at HSPLIT HSPL
 clear hp hop hW hmap hw0 hlen hparse hspl hsplit hname hget hWs hWN
 go_enter Tryz.func83,Tryz.ntmps83
 go_wp2_with fail
 refine HSPLIT.out.mono ?_
 rintro e w2 ⟨rfl,hw2⟩
 have hs2:SplAt B w W w2:=by rw [← hw2];exact HSPL.out
 have hsz2:w.heap.size+1<w2.heap.size:=by rw [← hw2];simp
 have hcell0:=hs2.words 0 hW0
 rw [show(w.alloc (.cells #[.int .i64 0,.int .i64 0,.int .i64 0,.int .i64 0,.int .i64 0] 65)).heap.size=w.heap.size+1 by simp]
 have HS2:=hD hs2
 clear hw2 hs2
 obtain⟨x0,hx0⟩:∃ x,W.getD 0 ⟨#[]⟩=x:=⟨_,rfl⟩
 rw [hx0] at hcell0 HNAME
 clear hx0
 go_wp2_with fail
 refine(HNAME.out _ HS2.out.laid.names).mono ?_
 rintro e w' ⟨rfl,rfl⟩
 clear hcell0
 go_wp2_with fail
 refine(HO.out _).mono ?_
 rintro e w3 ⟨rfl,hw3⟩
 have hs3:SplAt B w W w3:=by rw [← hw3];exact HS2.out.up' (za w2 _) hsz2
 have hsz3:w2.heap.size<w3.heap.size:=by rw [← hw3];simp
 have hkc:∀ k,k<n→w3.cell? ⟨w2.heap.size,k,none⟩=some (.int .i64 ((opsOf op).getD k 0)):=fun k hk=>by
  rw [← hw3,(Box.new w2 3 ((opsOf op).map (Value.int .i64)).toArray).cell k]
  have hk':k<(opsOf op).length:=by rw [HLEN.out];exact hk
  simp [List.getD_eq_getElem?_getD,hk']
 have HS3:=hD hs3
 have HSZ3:=hD hsz3
 have HSZ2:=hD hsz2
 have HKC:=hD hkc
 clear hw3 hs3 hsz3 hkc hsz2
 by_cases hbad:W.length - 1≠n
 ·have hnone:parseP s.data.toList=none:=by rw [HPARSE.out,HLEN.out];exact if_pos (.inr hbad)
  have HNONE:=hD hnone
  have hne:((W.length:Int) - 1 != (n:Int))=true:=by
   rw [bne_iff_ne]
   omega
  have hz:=HS3.out.res
  have z0:=hz.cell 0
  have z1:=hz.cell 1
  have z2:=hz.cell 2
  have z3:=hz.cell 3
  have z4:=hz.cell 4
  have y0:=hz.frozen 0
  have y1:=hz.frozen 1
  have y2:=hz.frozen 2
  have y3:=hz.frozen 3
  have y4:=hz.frozen 4
  clear hz
  clear hnone hbad
  go_wp2
  exact zj2 HS3.out.res (fun W h0 h1 h2 h3 h4=>by simp [results,Tryz.results83,go_sem,h0,h1,h2,h3,h4]) (fun W hb hf=>zi5 HNONE.out (HS3.out.below.trans hf))
 ·have hWn:W.length=n+1:=by omega
  have hpl:parseP s.data.toList=match numsUpto (numAt op (wordsOf s.data.toList)) n with
    | none=>none
    | some L=>if textOf op (padded L)=s.data.toList then some (op,padded L) else none:=by
   rw [HPARSE.out,HLEN.out]
   exact if_neg (by omega)
  have hne:((W.length:Int) - 1 != (n:Int))=false:=by
   rw [bne_eq_false_iff_eq]
   omega
  have HPL0:=hD hpl
  have hnil:w3.ownsRow w3.heap.size 3 1 (.slice none 0 0) 0 []:=⟨rfl,.inl ⟨rfl,rfl⟩⟩
  have HNIL:=hD hnil
  obtain⟨i0,hi,hz0,hz1,hz2⟩:=info_parts zh16
  have HI:=hD hi
  have HZ0:=hD hz0
  have HZ1:=hD hz1
  have HZ2:=hD hz2
  clear hpl hbad hnil hi hz0 hz1 hz2
  go_wp2
  clear hne
  go_loopw [7,34] (fun v i wr=>∃ (k:Nat) (L:List Int),k≤n∧i=.int .i64 k∧numsUpto (numAt op (wordsOf s.data.toList)) k=some L∧wr.ownsRow w3.heap.size 3 1 v k (L.map (Value.int .i64))∧Below w3.heap.size w3 wr) (fun _ i _=>n - (intOf i).toNat)
  case atStart=>exact⟨0,[],by omega,rfl,rfl,HNIL.out,Below.refl _ _⟩
  case round=>
   obtain⟨k,L,hk,rfl,hnu,hown,hbl⟩:=hrel
   have hLk:L.length=k:=nums_len hnu
   have hsr:=HS3.out.up' hbl (Nat.lt_trans HSZ2.out HSZ3.out)
   have HNU:=hD hnu
   have HOWN:=hD hown
   have HBL:=hD hbl
   have HSR:=hD hsr
   have HLK:=hD hLk
   have HLT:Hid (w.heap.size+1<wr.heap.size):=hD (Nat.lt_of_lt_of_le (Nat.lt_trans HSZ2.out HSZ3.out) hbl.size)
   clear hnu hown hbl hsr hLk
   by_cases hlt:k<n
   ·have hkc:=(HBL.out.cell (p:=⟨w2.heap.size,k,none⟩) HSZ3.out).trans (HKC.out k hlt)
    have hwc:=HSR.out.words (k+1) (by omega)
    have hxs:(W.getD (k+1) ⟨#[]⟩).size≤8400000:=by
     have hm:W.getD (k+1) ⟨#[]⟩ ∈ W:=by
      rw [List.getD_eq_getElem?_getD,List.getElem?_eq_getElem (by omega)]
      exact List.getElem_mem _
     have:=HWS.out _ hm
     omega
    have hnum:=zs16 ((opsOf op).getD k 0) _ hxs wr HSR.out.laid
    rw [HGET.out (k+1) (by omega)] at hnum
    have hna:numAt op (wordsOf s.data.toList) k=numOf ((opsOf op).getD k 0) ((wordsOf s.data.toList).getD (k+1) []):=rfl
    rw [← hna] at hnum
    clear hna hxs
    generalize (opsOf op).getD k 0=kd at hkc hnum
    generalize W.getD (k+1) ⟨#[]⟩=xw at hwc hnum
    cases hr:numAt op (wordsOf s.data.toList) k with
    | none=>
     rw [hr] at hnum
     have hnone:parseP s.data.toList=none:=by rw [HPL0.out,nums_none (zr18 HNU.out hr) n (by omega)]
     have HNONE:=hD hnone
     have HNUM:=hD hnum
     clear hr hnone hnum
     go_wp2_with fail
     refine HNUM.out.mono ?_
     rintro e w4 ⟨x,rfl,_,hb4⟩
     have HS4:=hD (HSR.out.up' hb4 HLT.out)
     clear hb4 hkc hwc
     simp only [Option.isSome_none]
     have hz:=HS4.out.res
     have z0:=hz.cell 0
     have z1:=hz.cell 1
     have z2:=hz.cell 2
     have z3:=hz.cell 3
     have z4:=hz.cell 4
     have y0:=hz.frozen 0
     have y1:=hz.frozen 1
     have y2:=hz.frozen 2
     have y3:=hz.frozen 3
     have y4:=hz.frozen 4
     clear hz
     go_wp2
     exact zj2 HS4.out.res (fun W h0 h1 h2 h3 h4=>by simp [results,Tryz.results83,go_sem,h0,h1,h2,h3,h4]) (fun W hb hf=>zi5 HNONE.out (HS4.out.below.trans hf))
    | some y=>
     rw [hr] at hnum
     have hnu1:=zw9 HNU.out hr
     have HNU1:=hD hnu1
     have HNUM:=hD hnum
     clear hr hnu1 hnum
     go_wp2_with fail
     refine HNUM.out.mono ?_
     rintro e w4 ⟨x,rfl,hx,hb4⟩
     obtain rfl:x=y:=hx y rfl
     have HB4:=hD (HBL.out.trans (hb4.mono HBL.out.size))
     have HOWN4:=hD (own_fr (S:=fun _=>False) (HOWN.out) (Fr.of_below hb4) (fun _ _ h=>h))
     clear hb4 hkc hwc hx
     simp only [Option.isSome_some]
     go_wp2_with (at_builtin;refine wpList_append_own _ rfl _ _ 73 rfl w3.heap.size 3 i0 (.int .i64 0) 1 8 Tryz.underlying73 HI.out HZ0.out HZ1.out HZ2.out rfl (by decide) _ _ _ rfl (own_fr (S:=fun _=>False) HOWN4.out ((Fr.refl _ w4).alloc _) (fun _ _ h=>h)) ⟨w4.heap.size,0,none⟩ 1 1 [.int .i64 x] rfl rfl ?c1 ?c2 ?c3 ?c4 ?c5 ?_)
     case c1=>exact zy13 w4 (.int .i64 x) 3
     case c2=>exact one_word .i64 x
     case c3=>unfold maxLen;omega
     case c4=>omega
     case c5=>have:=HB4.out.size;simp;omega
     intro v' w5 hown5 hgrow _
     have hb5:Below w3.heap.size w4 w5:=((Below.refl _ w4).alloc HB4.out.size _).trans ((Fr.of_grown (S:=fun j=>w3.heap.size≤j) hgrow (fun j _ e=>zy14 HOWN4.out e)).below (B:=w3.heap.size) (by have:=HB4.out.size;simp;omega) (fun j h=>h))
     have HB5:=hD (HB4.out.trans hb5)
     have HOWN5:Hid (w5.ownsRow w3.heap.size 3 1 v' (k+1) ((L ++ [x]).map (Value.int .i64))):=hD (by simpa using hown5)
     clear hown5 hgrow hb5
     go_wp2
     go_roundw
     case rel=>exact⟨k+1,L ++ [x],by omega,by go_num,HNU1.out,HOWN5.out,HB5.out⟩
     case measure=>simp [intOf];omega
   ·obtain rfl:k=n:=by omega
    have hpl:parseP s.data.toList=if textOf op (padded L)=s.data.toList then some (op,padded L) else none:=by rw [HPL0.out,HNU.out]
    have HPL:=hD hpl
    have HINTS:=hD (zj16 (HLK.out ▸ HOWN.out))
    clear hpl
    obtain⟨a0,ha0⟩:∃ x,L.getD 0 0=x:=⟨_,rfl⟩
    obtain⟨a1,ha1⟩:∃ x,L.getD 1 0=x:=⟨_,rfl⟩
    obtain⟨a2,ha2⟩:∃ x,L.getD 2 0=x:=⟨_,rfl⟩
    obtain⟨a3,ha3⟩:∃ x,L.getD 3 0=x:=⟨_,rfl⟩
    have hpad:padded L=[a0,a1,a2,a3]:=by rw [padded,ha0,ha1,ha2,ha3]
    have hmake:=zj18 op L _ wr HINTS.out
    rw [ha0,ha1,ha2,ha3] at hmake
    have htext:=fun(w':World) (hp:LaidC B w')=>zb19 op a0 a1 a2 a3 w' hp
    have hyes:∀ (w':World),textOf op [a0,a1,a2,a3]=s.data.toList→Below w.heap.size w w'→ParseRes w (parseP s.data.toList) (.returned (.tuple #[insV op a0 a1 a2 a3,.int .i64 0])) w':=fun w' ht hb=>by
     have h:=zz14 (L:=L) (op:=op) (HPL.out.trans (by rw [hpad,if_pos ht])) hb
     rw [ha0,ha1,ha2,ha3] at h
     exact h
    have hno:¬ textOf op [a0,a1,a2,a3]=s.data.toList→parseP s.data.toList=none:=fun ht=>HPL.out.trans (by rw [hpad,if_neg ht])
    unfold insV at hmake htext
    have HMAKE:=hD hmake
    have HTEXT:=hD htext
    have HYES:=hD hyes
    have HNO:=hD hno
    clear ha0 ha1 ha2 ha3 hpad hmake htext hyes hno
    go_wp2_with fail
    (with_reducible refine HMAKE.out.mono ?_)
    rintro e w3 ⟨rfl,hb3⟩
    have hs3:=HSR.out.up' hb3 HLT.out
    have hlt3:w.heap.size+1<w3.heap.size:=Nat.lt_of_lt_of_le HLT.out hb3.size
    have hs4:=hs3.up' (za w3 (.cells #[.int .i64 op,.int .i64 a0,.int .i64 a1,.int .i64 a2,.int .i64 a3] 65)) hlt3
    have hbx4:=Box.new w3 65 #[.int .i64 op,.int .i64 a0,.int .i64 a1,.int .i64 a2,.int .i64 a3]
    have HS4:=hD hs4
    have HLT3:=hD hlt3
    have HBX4:=hD hbx4
    clear hb3 hs3 hs4 hbx4 hlt3
    go_wp2_with fail
    by_cases ht:textOf op [a0,a1,a2,a3]=s.data.toList
    ·have hte:=HTEXT.out _ HS4.out.laid
     rw [ht,str_bs] at hte
     have HY:=hD (fun w'=>HYES.out w' ht)
     have HTE:=hD hte
     clear hte ht
     refine HTE.out.mono ?_
     rintro e w5 ⟨rfl,hb5⟩
     have hs5:=HS4.out.up' hb5 (by have:=HLT3.out;simp;omega)
     have hbx5:=HBX4.out.below hb5 HBX4.out.lt
     have c0:=hbx5.cell 0
     have c1:=hbx5.cell 1
     have c2:=hbx5.cell 2
     have c3:=hbx5.cell 3
     have c4:=hbx5.cell 4
     have z0:=hs5.res.cell 0
     have z1:=hs5.res.cell 1
     have z2:=hs5.res.cell 2
     have z3:=hs5.res.cell 3
     have z4:=hs5.res.cell 4
     have y0:=hs5.res.frozen 0
     have y1:=hs5.res.frozen 1
     have y2:=hs5.res.frozen 2
     have y3:=hs5.res.frozen 3
     have y4:=hs5.res.frozen 4
     have HS5:=hD hs5
     clear hb5 hs5 hbx5
     go_wp2
     exact zj2 HS5.out.res (fun W h0 h1 h2 h3 h4=>by simp [results,Tryz.results83,go_sem,h0,h1,h2,h3,h4]) (fun W hb hf=>HY.out _ (HS5.out.below.trans hf))
    ·have hte:=HTEXT.out _ HS4.out.laid
     have HN:=hD (HNO.out ht)
     have hne:¬ bs (textOf op [a0,a1,a2,a3])=s:=fun e=>ht (by rw [← e,za4])
     generalize bs (textOf op [a0,a1,a2,a3])=T at hte hne
     have hne2:=zz1 hne
     have HTE:=hD hte
     clear hte ht hne
     refine HTE.out.mono ?_
     rintro e w5 ⟨rfl,hb5⟩
     have hs5:=HS4.out.up' hb5 (by have:=HLT3.out;simp;omega)
     have z0:=hs5.res.cell 0
     have z1:=hs5.res.cell 1
     have z2:=hs5.res.cell 2
     have z3:=hs5.res.cell 3
     have z4:=hs5.res.cell 4
     have y0:=hs5.res.frozen 0
     have y1:=hs5.res.frozen 1
     have y2:=hs5.res.frozen 2
     have y3:=hs5.res.frozen 3
     have y4:=hs5.res.frozen 4
     have HS5:=hD hs5
     clear hb5 hs5
     go_wp2
     exact zj2 HS5.out.res (fun W h0 h1 h2 h3 h4=>by simp [results,Tryz.results83,go_sem,h0,h1,h2,h3,h4]) (fun W hb hf=>zi5 HN.out (HS5.out.below.trans hf))
theorem parse_any (s:ByteArray) (hs:s.size≤8400000) (w:World) {B:Nat} (hp:LaidC B w) :
  Calls Tryz.prog 83 #[.string s] w (ParseRes w (parseP s.data.toList)):=by
 by_cases ho:opsOf (namedOf (bs ((wordsOf s.data.toList).getD 0 [])))=[]
 ·exact zl20 s hs _ rfl ho w hp
 ·exact zm20 s hs _ rfl _ rfl (List.length_pos_iff.2 ho) w hp
end Go.Proofs.YtlmbiafloiompaaGreatDoor
