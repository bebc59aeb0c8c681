/-
  11 texts in one (CodeM CrcM Mem OName ObjM OTName CodeA CodeB CodeC CodeD ObjA). Conditions: those of each theorem.
-/
import Derived.Lib.Hide
import Derived.WalkKit
import Derived.Laws.BitsAllLaws
import Derived.Deep.RegionHeld3
import Derived.ProofKit
import Derived.Below
import Derived.Laws.OwnMore
import Derived.Laws.Rows
import Derived.Deep.Draws
import Derived.OwnWalk
import Derived.ChangeSame
import Derived.WalkSmall
import Derived.Test.YtlmbiafloiompaaGreatDoorProg
import Derived.LoopTactic
import Derived.OpenShut
import Derived.IntWalk
import Derived.Outline
import Derived.Deep.DeepCutAuto
import Derived.Laws.CopyOwn
import Derived.Deep.QuietTactic
import Derived.BigQuiet
import Derived.Deep.RegionLaw
set_option linter.unusedVariables false
set_option linter.unusedSimpArgs false
namespace Go.Proofs.YtlmbiafloiompaaGreatDoor
open Go
def opsOf (op:Int):List Int:=
 if op=1 ∨ op=2 ∨ op=10 ∨ op=11 then [1,2]
 else if op=3 ∨ op=12 then [3,2]
 else if op=4 ∨ op=13 then [4,2]
 else if op=5 ∨ op=14 then [2]
 else if op=6 ∨ op=7 then [1]
 else if op=8 then [3]
 else if op=9 then [5]
 else if op=15 then [6]
 else if op=17 ∨ op=18 then [7]
 else if op=20 ∨ op=21 then [8]
 else if op=24 ∨ op=25 then [9]
 else if op=26 then [8,8,8,8]
 else []
def lowOf (kind:Int):Int:=if kind=5 then 1 else 0
def highOf (kind:Int):Int:=
 if kind=1 then 31 else if kind=2 then 15 else if kind=3 then 255 else if kind=4 then 255 else if kind=5 then 8
 else if kind=6 then 16 else if kind=7 then 63 else if kind=8 then 1023 else if kind=9 then 15 else 0
def mayB (op kind n:Int):Bool:=decide ((op=26∧n=65535) ∨ (lowOf kind≤n∧n≤highOf kind))
def rightB (op:Int) (a:List Int):Bool:=
 decide (0≤op∧op≤26) && (List.range 4).all fun k=>mayB op ((opsOf op).getD k 0) (a.getD k 0)
def nameList:List (List UInt8):=[
 [102,97,105,108],[103,101,116,118,97,114],[103,101,116,118,97,108],[103,101,116,99,111,110],[103,101,116,115,116,114],[103,101,116,108,105,115],
 [117,110,105,118,97,114],[117,110,105,118,97,108],[117,110,105,99,111,110],[117,110,105,118,111,105,100],[112,117,116,118,97,114],[112,117,116,118,97,108],
 [112,117,116,99,111,110],[112,117,116,115,116,114],[112,117,116,108,105,115],[97,108,108,111,99,97,116,101],[100,101,97,108,108,111,99,97,116,101],
 [99,97,108,108],[101,120,101,99,117,116,101],[112,114,111,99,101,101,100],[116,114,121],[114,101,116,114,121],[116,114,117,115,116],[110,101,99,107,99,117,116],
 [103,101,116,108,101,118,101,108],[99,117,116],[115,119,105,116,99,104]]
def nameAt (k:Nat):ByteArray:=⟨(nameList.getD k []).toArray⟩
def nameOf (op:Int):ByteArray:=if 0≤op∧op≤26 then nameAt op.toNat else⟨#[]⟩
theorem span_list:∀ op ∈ ([0,1,2,3,4,5,6,7,8,9,10,11,12,13,14,15,16,17,18,19,20,21,22,23,24,25,26]:List Int),∀ k ∈ opsOf op,1≤k∧k≤9:=by decide +kernel
end Go.Proofs.YtlmbiafloiompaaGreatDoor

namespace Go.Proofs.YtlmbiafloiompaaGreatDoor
def turned (l:List Nat) (k y:Nat):Nat→List Nat
 | 0=>l
 | i+1=>if y / 2 ^ i % 2=1 then(turned l k y i).set ((k+i) / 8) ((turned l k y i).getD ((k+i) / 8) 0 ^^^ 2 ^ ((k+i) % 8)) else turned l k y i
theorem hD {p : Prop} (h : p) : Go.RowKit.Hid p := h
open Go Go.RowKit Go.WideShapes Go.ChangeShapes
structure Fr (S:Nat→Prop) (w w':World):Prop where
 os:w'.os=w.os
 tape:w'.tape=w.tape
 output:w'.output=w.output
 size:w.heap.size≤w'.heap.size
 block:∀ k,k<w.heap.size→¬ S k→w'.heap[k]?=w.heap[k]?
def Box (w:World) (g:Nat) (t:TypeId) (cs:Array Value):Prop:=w.heap[g]?=some (.cells cs t (0,0))
section
variable {S T:Nat→Prop} {w w' w'':World} {g:Nat} {t:TypeId} {cs:Array Value}
theorem Fr.refl (S:Nat→Prop) (w:World):Fr S w w:=⟨rfl,rfl,rfl,Nat.le_refl _,fun _ _ _=>rfl⟩
theorem Fr.trans (h:Fr S w w') (k:Fr S w' w''):Fr S w w'':=
 ⟨k.os.trans h.os,k.tape.trans h.tape,k.output.trans h.output,Nat.le_trans h.size k.size,fun i hi hs=>(k.block i (Nat.lt_of_lt_of_le hi h.size) hs).trans (h.block i hi hs)⟩
theorem Fr.mono (h:Fr S w w') (hST:∀ k,k<w.heap.size→S k→T k):Fr T w w':=⟨h.os,h.tape,h.output,h.size,fun i hi hs=>h.block i hi (fun x=>hs (hST i hi x))⟩
theorem Fr.of_grown {row:Option Nat} (h:w.grownBy w' row) (hs:∀ k,k<w.heap.size→row=some k→S k):Fr S w w':=⟨h.os,h.tape,h.output,h.size,fun i hi hn=>h.block i hi (fun e=>hn (hs i hi e.symm))⟩
theorem Fr.drew (h:Fr S w w'):Fr S w w'.drew:=⟨h.os,h.tape,h.output,h.size,h.block⟩
theorem Fr.drewN (h:Fr S w w') (n:Nat):Fr S w (w'.drewN n):=⟨h.os,h.tape,h.output,h.size,h.block⟩
theorem Fr.alloc (h:Fr S w w') (o:Obj):Fr S w (w'.alloc o):=
 ⟨h.os,h.tape,h.output,Nat.le_trans h.size (by simp),fun i hi hs=>(Below.heap_alloc w' o i (Nat.lt_of_lt_of_le hi h.size)).trans (h.block i hi hs)⟩
theorem Fr.setCell (h:Fr S w w') {p:Addr} (hp:S p.block ∨ w.heap.size≤p.block) (u:Value):Fr S w (w'.setCell p u):=
 ⟨h.os,h.tape,h.output,by simpa [World.setCell] using h.size,fun i hi hs=>(Below.heap_setCell w' p u i (by
  rintro rfl
  rcases hp with hp | hp
  ·exact hs hp
  ·omega)).trans (h.block i hi hs)⟩
theorem Fr.below {B:Nat} (h:Fr S w w') (hB:B≤w.heap.size) (hs:∀ k,S k→B≤k):Below B w w':=
 ⟨h.os,h.tape,h.output,h.size,fun k hk=>h.block k (by omega) (fun x=>by have:=hs k x;omega)⟩
theorem Fr.of_below (h:Below w.heap.size w w'):Fr S w w':=⟨h.os,h.tape,h.output,h.size,fun k hk _=>h.block k hk⟩
theorem Box.lt (h:Box w g t cs):g<w.heap.size:=by
 unfold Box at h
 exact(Array.getElem?_eq_some_iff.1 h).1
theorem Box.cell (h:Box w g t cs) (i:Nat):w.cell? ⟨g,i,none⟩=cs[i]?:=cell_of_row w g i cs t (0,0) h
theorem Box.frozen (h:Box w g t cs) (i:Nat):w.frozen? ⟨g,i,none⟩=false:=frozen_of_row w g i cs t h
theorem Box.new (w:World) (t:TypeId) (cs:Array Value):Box (w.alloc (.cells cs t)) w.heap.size t cs:=heap_alloc_new w _
theorem Box.drew (h:Box w g t cs):Box w.drew g t cs:=h
theorem Box.drewN (h:Box w g t cs) (n:Nat):Box (w.drewN n) g t cs:=h
theorem Box.fr (h:Box w g t cs) (hf:Fr S w w') (hg:¬ S g):Box w' g t cs:=(hf.block g h.lt hg).trans h
theorem Box.alloc (h:Box w g t cs) (o:Obj):Box (w.alloc o) g t cs:=(Below.heap_alloc w o g h.lt).trans h
theorem Box.set_ (h:Box w g t cs) (i:Nat) (u:Value):Box (w.setCell ⟨g,i,none⟩ u) g t (cs.setIfInBounds i u):=heap_setCell_same w g i cs t u h
theorem Box.far (h:Box w g t cs) {p:Addr} (hp:g≠p.block) (u:Value):Box (w.setCell p u) g t cs:=(Below.heap_setCell w p u g hp).trans h
theorem Box.ne_ {g':Nat} {t':TypeId} {cs':Array Value} (h:Box w g t cs) (h':Box w g' t' cs') (hne:t≠t'):g≠g':=by
 rintro rfl
 unfold Box at h h'
 rw [h] at h'
 injection h' with h'
 injection h' with _ ht
 exact hne ht
theorem Box.below {B:Nat} (h:Box w g t cs) (hb:Below B w w') (hg:g<B):Box w' g t cs:=(hb.block g hg).trans h
variable {base:Nat} {e:TypeId} {size n:Nat} {v:Value} {xs:List Value}
theorem own_fr (h:w.ownsRow base e size v n xs) (hf:Fr S w w') (hn:∀ k,v.ownBlock=some k→¬ S k):w'.ownsRow base e size v n xs:=by
 refine⟨h.1,?_⟩
 rcases h.2 with h0 | ⟨g,cap,cur,rfl,hb,hg,rest⟩
 ·exact .inl h0
 ·exact .inr ⟨g,cap,cur,rfl,hb,(hf.block g (Array.getElem?_eq_some_iff.1 hg).1 (hn g rfl)).trans hg,rest⟩
theorem zf6 (w:World) (o:Obj) {p:Addr} (hp:p.block<w.heap.size):(w.alloc o).cell? p=w.cell? p:=World.cell?_of_block (w:=w) (Below.heap_alloc w o p.block hp)
theorem zm4 {B m:Nat} (h:Below B (w.drewN m) w'):Below B w w':=⟨h.os,h.tape,h.output,h.size,h.block⟩
theorem zb (h:w.ownsRow base e size v n xs) (hg:Box w g t cs) (hne:e≠t):∀ k,v.ownBlock=some k→k≠g:=by
 intro k hk
 rcases h.2 with⟨rfl,_⟩ | ⟨g',cap,cur,rfl,_,hh,_⟩
 ·simp [Value.ownBlock] at hk
 ·have hk':g'=k:=by simpa [Value.ownBlock] using hk
  subst hk'
  exact Box.ne_ (t:=e) hh hg hne
theorem zl (h:w.ownsRow base e size v n xs):∃ A c,v=.slice A n c∧n≤c:=by
 rcases h.2 with⟨rfl,rfl⟩ | ⟨g,cap,cur,rfl,_,_,hc,_⟩
 ·exact⟨_,_,rfl,Nat.le_refl _⟩
 ·exact⟨_,_,rfl,hc⟩
theorem zc {base':Nat} {e':TypeId} {size' n':Nat} {v':Value} {xs':List Value} (h:w.ownsRow base e size v n xs) (h':w.ownsRow base' e' size' v' n' xs') (hne:e≠e') :
  ∀ k,v.ownBlock=some k→v'.ownBlock≠some k:=by
 intro k hk hk'
 rcases h.2 with⟨rfl,_⟩ | ⟨g,cap,cur,rfl,_,hh,_⟩
 ·simp [Value.ownBlock] at hk
 ·have e1:g=k:=by simpa [Value.ownBlock] using hk
  subst e1
  exact zb h' (t:=e) hh (fun x=>hne x.symm) g hk' rfl
theorem zd (h:w.ownsRow base e size v n xs) {p:Addr} (hp:∀ k,v.ownBlock=some k→k≠p.block) (u:Value):(w.setCell p u).ownsRow base e size v n xs:=
 own_fr (S:=fun k=>k=p.block) h ((Fr.refl (fun k=>k=p.block) w).setCell (p:=p) (.inl rfl) u) hp
theorem zh4 {base':Nat} (h:w.ownsRow base e size v n xs) (hb:∀ k,v.ownBlock=some k→base'≤k):w.ownsRow base' e size v n xs:=by
 refine⟨h.1,?_⟩
 rcases h.2 with h0 | ⟨g,cap,cur,rfl,_,rest⟩
 ·exact .inl h0
 ·exact .inr ⟨g,cap,cur,rfl,hb g rfl,rest⟩
theorem zo20 {H:Type} {enc:TypeId × Value→H} {P:Program} {f:Func} {s:ChangeSpec} {apart fresh handsOn again:Bool} {W W':World} {args:Array Value} {v:Value} {ds gs:List (DataW H)} {before pa pv:List MemPlace}
  (hW:DataW.Whole enc P f.params.toList s.vars apart W args.toList ds gs before)
  (hres:∀ (b:Nat) (sp:Nat→Bool) (hd:Bool),DataW.TrodAll enc P W' b sp hd f.resultTypes.toList (v.resultList f.resultTypes.size) (s.fn H (ds ++ gs)).results [])
  (hargs:∀ sp:Nat→Bool,(∀ p ∈ before,sp p.block=true)→DataW.TrodAll enc P W' 0 sp true f.params.toList args.toList (s.fn H (ds ++ gs)).args pa)
  (hvars:∀ sp:Nat→Bool,(∀ p ∈ before,sp p.block=true)→DataW.TrodVars enc P W' sp s.vars (s.fn H (ds ++ gs)).vars pv)
  (hps:before=pa ++ pv) (hb:Below W.heap.size W W')
  (hok:∀ (j:Nat) (t:TypeId) (r:Value),f.resultTypes[j]?=some t→(v.resultList f.resultTypes.size)[j]?=some r→Value.okWide P W' .any 0 t r) :
  s.post enc P f apart fresh handsOn again W args v W':=by
 have hlt:∀ p ∈ before,p.block<W.heap.size:=fun p hp=>hW.lt p hp
 have hold:∀ p ∈ before,(fun b=>decide (b<W.heap.size)) p.block=true:=fun p hp=>by simpa using hlt p hp
 refine⟨ds,gs,before,[],pa,pv,hW,hres _ _ _,hargs _ hold,hvars _ hold,World.keptBut_mono (fun p hp=>⟨hp,?_⟩) (hb.frame (· ∈ before)),fun _=>?_⟩
 ·rw [hps,List.mem_append] at hp
  exact Or.inr hp
 ·obtain⟨_,_,_,_,_,hz,hn⟩:=hW
  refine⟨hok,_,_,([] ++ pa) ++ pv,⟨[] ++ pa,pv,trodAll_append (hargs _ (fun _ _=>rfl)) (hres _ _ _),hvars _ (fun _ _=>rfl),rfl,?_,?_⟩,?_⟩
  ·intro b off hp
   have hin:MemPlace.cell b off ∈ before:=by rw [hps];simpa using hp
   rw [hb.frozen (hlt _ hin)]
   exact hz b off hin
  ·intro ha
   have:=hn ha
   rw [hps] at this
   simpa using this
  ·intro p hp _
   rw [hps]
   simpa using hp
theorem zy13 (w:World) (a:Value) (t:TypeId):∀ j u,[a][j]?=some u→(w.alloc (.cells #[a] t)).cell? ((⟨w.heap.size,0,none⟩:Addr).add j)=some u:=by
 intro j u hu
 match j with
 | 0=>
  obtain rfl:a=u:=by simpa using hu
  simp [Addr.add]
 | j+1=>simp at hu
theorem one_word (k:IntKind) (c:Int):∀ u ∈ [Value.int k c],u.oneCell'=true:=by
 intro u hu
 obtain rfl:u=.int k c:=by simpa using hu
 rfl
end
theorem qA {α:Type} {xs:List α} {i:Nat} (h:i<xs.toArray.size):xs.toArray[i]=xs[i]'(by simpa using h):=List.getElem_toArray h
theorem qB {α:Type} (a:α) (l:List α) (h:0<(a :: l).length):(a :: l)[0]=a:=List.getElem_cons_zero _ _ _
theorem qC {α:Type} (a:α) (l:List α) (i:Nat) (h:i+1<(a :: l).length):(a :: l)[i+1]=l[i]'(Nat.lt_of_succ_lt_succ h):=List.getElem_cons_succ _ _ _ _
theorem qD {α:Type} (l:List α) (i:Nat) (a:α):l.toArray.setIfInBounds i a=(l.set i a).toArray:=List.setIfInBounds_toArray ..
theorem qE {α:Type} {a b:α} {l:List α}:(a :: l).set 0 b=b :: l:=List.set_cons_zero
theorem qF {α:Type} {a b:α} {l:List α} {i:Nat}:(a :: l).set (i+1) b=a :: l.set i b:=List.set_cons_succ
theorem tHH {P:Program} {md:Region.Mode} {ops:Array Oper} {Q:Exit→Act→World→Prop} {S:World→Prop} {i:Nat} {oi:Oper} {v:Value} {f:Nat} {L:Array Bool} {a:Act} {w:World} (hi:ops[i]?=some oi) (hy:∀ w,S w→(execOp a.eval oi).run P w=.ok (.value v) w) (h:wpAnyH P md ops Q S f (L.setIfInBounds i true) (a.put oi.dst v) w) (hS:S w:=by assumption) (hw:Region.wanted oi (yielded ops a.tmps)=true:=by kernel_rfl) (hQ:∀ c a w,Q (.panic c) (a.put oi.dst v) w→Q (.panic c) a w:=by exact fun _ _ _ h=>h) (hs:Region.noSelect ops=true:=by kernel_rfl) (hf:Region.free md ops L i=true:=by kernel_rfl) (hr:(Region.ready md ops L).contains i=true:=by kernel_rfl):wpAnyH P md ops Q S (f+1) L a w:=
 wpAnyH_take hi hs hf hr hQ (Or.inl ⟨hw,hy⟩) hS h
def StH (_:List Nat):Prop:=True
theorem StH.tl {i:Nat} {l:List Nat} (_:StH (i :: l)):StH l:=trivial
section
variable {P:Program} {md:Region.Mode} {ops:Array Oper} {Q:Exit→Act→World→Prop} {S:World→Prop} {i:Nat} {f:Nat} {L:Array Bool} {a:Act} {w:World}
theorem tHL {l:List Nat} {oi:Oper} {v:Value} (_:StH (i :: l)) (hi:ops[i]?=some oi) (hy:∀ w,S w→(execOp a.eval oi).run P w=.ok (.value v) w) (h:wpAnyH P md ops Q S f (L.setIfInBounds i true) (a.put oi.dst v) w) (hS:S w:=by assumption) (hw:Region.wanted oi (yielded ops a.tmps)=true:=by kernel_rfl) (hQ:∀ c a w,Q (.panic c) (a.put oi.dst v) w→Q (.panic c) a w:=by exact fun _ _ _ h=>h) (hs:Region.noSelect ops=true:=by kernel_rfl) (hf:Region.free md ops L i=true:=by kernel_rfl) (hr:(Region.ready md ops L).contains i=true:=by kernel_rfl):wpAnyH P md ops Q S (f+1) L a w:=
  wpAnyH_take hi hs hf hr hQ (Or.inl ⟨hw,hy⟩) hS h
theorem wH1 {o:Oper} (hr:Region.ready md ops L=[i]) (ho:ops[i]?=some o) (h:∀ K':Act→World→Prop,Shut (∀ a w,S w→(S w→wpAnyH P md ops Q S f (L.setIfInBounds i true) a w)→K' a w)→if Region.wanted o (yielded ops a.tmps)=true then Oper.wp P o a w K' Q else K' (a.put o.dst undef) w):wpAnyH P md ops Q S (f+1) L a w:=
  wpAnyH_ready hr (by simp) (AllReadyH.cons ho h AllReadyH.nil)
end

end Go.Proofs.YtlmbiafloiompaaGreatDoor

namespace Go.Proofs.YtlmbiafloiompaaGreatDoor
open Go Go.RowKit
def lowerB (c:UInt8):Bool:=decide (97≤c.toNat) && decide (c.toNat≤122)
def nameB (c:UInt8):Bool:=lowerB c || (decide (48≤c.toNat) && decide (c.toNat≤57))
def nameOk (s:ByteArray):Bool:=decide (1≤s.size) && decide (s.size≤32) && (s.data.toList.head?.any lowerB) && s.data.toList.all nameB
theorem zl12 (s:ByteArray) (k:Nat) (h:k<s.size):s.data.toList.take (k+1)=s.data.toList.take k ++ [s[k]]:=by
  rw [List.take_succ_eq_append_getElem (by simpa using h)];rfl
theorem zq17 (s:ByteArray) (k:Nat) (h:k<s.size) (hb:nameB s[k]=false):s.data.toList.all nameB=false:=by
  have:¬ s.data.toList.all nameB=true:=fun e=>by
    rw [List.all_eq_true] at e
    have:=e s[k] (by
      have h':k<s.data.toList.length:=by simpa using h
      exact List.getElem_mem h')
    rw [hb] at this
    cases this
  simpa using this
theorem head_of (s:ByteArray) (h:0<s.size):s.data.toList.head?=some s[0]:=by
  have h':0<s.data.toList.length:=by simpa using h
  rw [List.head?_eq_getElem?,List.getElem?_eq_getElem h']
  rfl
theorem zy5 (s:ByteArray) (w:World) (hs:s.size≤maxLen) :
    Calls Tryz.prog 102 #[.string s] w fun e w'=>e=.returned (.bool (nameOk s))∧w=w':=by
  unfold maxLen at hs
  by_cases c1:s.size<1 ∨ 32<s.size
  · have HV:Hid (nameOk s=false):=by
      show _=_
      simp only [nameOk,Bool.and_eq_false_iff,decide_eq_false_iff_not]
      omega
    by_cases c2:s.size<1
    · clear c1
      go_enter Tryz.func102,Tryz.ntmps102
      go_wp2_with fail
      go_ret
      exact⟨by rw [HV.out];rfl,rfl⟩
    · have c3:32<(s.size:Int):=by omega
      clear c1
      go_enter Tryz.func102,Tryz.ntmps102
      go_wp2_with fail
      go_ret
      exact⟨by rw [HV.out];rfl,rfl⟩
  · have h1:¬ (s.size:Int)<1:=by omega
    have h2:¬ 32<(s.size:Int):=by omega
    have h0:0<s.size:=by omega
    have hd:=head_of s h0
    have HD:=hD hd
    clear hd c1
    by_cases l1:((s[0].toNat:Nat):Int)<97
    · have HV:Hid (nameOk s=false):=by
        show _=_
        have:lowerB s[0]=false:=by simp [lowerB];omega
        simp [nameOk,HD.out,this]
      go_enter Tryz.func102,Tryz.ntmps102
      go_wp2_with fail
      go_ret
      exact⟨by rw [HV.out];rfl,rfl⟩
    · by_cases l2:122<((s[0].toNat:Nat):Int)
      · have HV:Hid (nameOk s=false):=by
          show _=_
          have:lowerB s[0]=false:=by simp [lowerB];omega
          simp [nameOk,HD.out,this]
        go_enter Tryz.func102,Tryz.ntmps102
        go_wp2_with fail
        go_ret
        exact⟨by rw [HV.out];rfl,rfl⟩
      · have HV:Hid (nameOk s=s.data.toList.all nameB):=by
          show _=_
          have e1:lowerB s[0]=true:=by simp [lowerB];omega
          have e2:decide (1≤s.size)=true:=by simp;omega
          have e3:decide (s.size≤32)=true:=by simp;omega
          simp only [nameOk,HD.out,e1,e2,e3,Option.any_some,Bool.true_and]
        go_enter Tryz.func102,Tryz.ntmps102
        go_wp2_with fail
        clear l1 l2
        go_loop [3] (fun i=>∃ j:Nat,j≤s.size∧i=.int .i64 j∧Hid ((s.data.toList.take j).all nameB=true)) (fun i=>s.size - (intOf i).toNat)
        case atStart=>exact⟨0,Nat.zero_le _,rfl,by simp [Hid]⟩
        case round=>
          obtain⟨j,hj,rfl,HA⟩:=hrel
          by_cases hlt:j<s.size
          · have HS:=hD (zl12 s j hlt)
            have HN:=hD (fun hb=>zq17 s j hlt hb)
            go_wp2
            all_goals first
              | (go_ret;exact⟨by rw [HV.out,HN.out (by simp [nameB,lowerB];omega)];rfl,rfl⟩)
              | (go_round
                 case rel=>exact⟨j+1,by omega,by go_num,by show _=_;rw [HS.out,List.all_append,HA.out];simp [nameB,lowerB];omega⟩
                 case measure=>simp [intOf];omega)
          · have hge:(s.size:Int)≤(j:Int):=by omega
            have HF:Hid (s.data.toList.all nameB=true):=by
              have:=HA.out
              rw [List.take_of_length_le (by simp;omega)] at this
              exact this
            go_wp2_with fail
            go_ret
            exact⟨by rw [HV.out,HF.out];rfl,rfl⟩
end Go.Proofs.YtlmbiafloiompaaGreatDoor

namespace Go.Proofs.YtlmbiafloiompaaGreatDoor
open Go
abbrev Ins:=Int × Int × Int × Int × Int
def argOf (i:Ins):List Int:=[i.2.1,i.2.2.1,i.2.2.2.1,i.2.2.2.2]
structure Ob where
 atoms:List ByteArray
 funs:List (ByteArray × Int)
 preds:List (ByteArray × Int × Int)
 code:List Ins
deriving DecidableEq
def bigB (a f p c:Nat):Bool:=decide (256<a ∨ 256<f ∨ 64<p ∨ 1024<c)
def funOk (least:Int) (f:ByteArray × Int):Bool:=nameOk f.1 && decide (least≤f.2) && decide (f.2≤8)
def called (p:ByteArray × Int × Int):ByteArray × Int:=(p.1,p.2.1)
def namesOk (o:Ob):Bool:=o.atoms.all nameOk && o.funs.all (funOk 1) && (o.preds.map called).all (funOk 0)
def twiceB {α:Type} [DecidableEq α] (l:List α):Bool:=!decide l.Nodup
def dupB (o:Ob):Bool:=twiceB o.atoms || twiceB o.funs || twiceB (o.preds.map called)
def entryOk (n:Nat) (e:Int):Bool:=decide (e=65535 ∨ (0≤e∧e<n))
def entsOk (n:Nat) (es:List Int):Bool:=es.all (entryOk n) && decide ((es.filter (fun e=>decide (e≠65535))).Nodup)
def thereB (a f p c:Nat) (kind n:Int):Bool:=
 if kind=3 then decide (0≤n∧n<a) else if kind=4 then decide (0≤n∧n<f) else if kind=7 then decide (0≤n∧n<p)
 else if kind=8 then decide (n=65535 ∨ (0≤n∧n<c)) else true
def insErr (a f p c:Nat) (i:Ins):Int:=
 if ¬ (0≤i.1∧i.1≤26) then 8
 else if rightB i.1 (argOf i)=false then 9
 else if (List.range (opsOf i.1).length).all (fun k=>thereB a f p c ((opsOf i.1).getD k 0) ((argOf i).getD k 0)) then 0 else 9
def codeErr (a f p c:Nat):List Ins→Int
 | []=>0
 | i :: l=>if insErr a f p c i=0 then codeErr a f p c l else insErr a f p c i
def checkOf (o:Ob):Int:=
 if bigB o.atoms.length o.funs.length o.preds.length o.code.length then 2
 else if namesOk o=false then 7
 else if dupB o then 11
 else if entsOk o.code.length (o.preds.map (·.2.2))=false then 7
 else codeErr o.atoms.length o.funs.length o.preds.length o.code.length o.code
def sizeK (kind:Int):Nat:=if kind=8 then 2 else 1
structure Rd where
 rest:List Nat
 short:Bool
deriving DecidableEq
def takeR (n:Nat) (r:Rd):List Nat × Rd:=if r.short=true ∨ r.rest.length<n then([],⟨r.rest,true⟩) else(r.rest.take n,⟨r.rest.drop n,false⟩)
def valL (l:List Nat):Nat:=l.foldl (fun n c=>n * 256+c) 0
def numR (n:Nat) (r:Rd):Nat × Rd:=(valL (takeR n r).1,(takeR n r).2)
def manyR {α:Type} (f:Rd→α × Rd):Nat→Rd→List α × Rd
 | 0,r=>([],r)
 | n+1,r=>((f r).1 :: (manyR f n (f r).2).1,(manyR f n (f r).2).2)
def argsR:List Int→Rd→List Int × Rd
 | [],r=>([],r)
 | k :: ks,r=>(((numR (sizeK k) r).1:Int) :: (argsR ks (numR (sizeK k) r).2).1,(argsR ks (numR (sizeK k) r).2).2)
def insOf (op:Int) (l:List Int):Ins:=(op,l.getD 0 0,l.getD 1 0,l.getD 2 0,l.getD 3 0)
def insR (r:Rd):Option (Ins × Rd):=
 if 26<(numR 1 r).1 then none
 else some (insOf (numR 1 r).1 (argsR (opsOf (numR 1 r).1) (numR 1 r).2).1,(argsR (opsOf (numR 1 r).1) (numR 1 r).2).2)
def codeR:Nat→Rd→Option (List Ins × Rd)
 | 0,r=>some ([],r)
 | n+1,r=>match insR r with
  | none=>none
  | some (i,r')=>match codeR n r' with
   | none=>none
   | some (l,r'')=>some (i :: l,r'')
def emptyOb:Ob:=⟨[],[],[],[]⟩
def findFrom (name:ByteArray) (arity:Int):Nat→List (ByteArray × Int × Int)→Int
 | _,[]=>-1
 | k,p :: l=>if p.1=name∧p.2.1=arity then(k:Int) else findFrom name arity (k+1) l
end Go.Proofs.YtlmbiafloiompaaGreatDoor

namespace Go.Proofs.YtlmbiafloiompaaGreatDoor
open Go Go.RowKit
def digitB (c:UInt8):Bool:=decide (48≤c.toNat) && decide (c.toNat≤57)
theorem zb13 (c:UInt8):nameB c=(lowerB c || digitB c):=rfl
theorem zr4 {b:Bool} (c:UInt8) (hb:lowerB c=b) (w:World) :
  Calls Tryz.prog 116 #[.int .u8 ((c.toNat:Nat):Int)] w fun e w'=>e=.returned (.bool b)∧w=w':=by
 have HB:=hD hb
 clear hb
 by_cases h1:(97:Int)≤((c.toNat:Nat):Int)
 ·by_cases h2:((c.toNat:Nat):Int)≤122
  ·go_enter Tryz.func116,Tryz.ntmps116
   go_wp2_with fail
   go_ret
   refine⟨?_,rfl⟩
   rw [← HB.out]
   show Ending.returned (.bool _)=_
   congr 2
   simp [lowerB]
   omega
  ·go_enter Tryz.func116,Tryz.ntmps116
   go_wp2_with fail
   go_ret
   refine⟨?_,rfl⟩
   rw [← HB.out]
   show Ending.returned (.bool _)=_
   congr 2
   simp [lowerB]
   omega
 ·go_enter Tryz.func116,Tryz.ntmps116
  go_wp2_with fail
  go_ret
  refine⟨?_,rfl⟩
  rw [← HB.out]
  show Ending.returned (.bool _)=_
  congr 2
  simp [lowerB]
  omega
theorem zv17 {b:Bool} (c:UInt8) (hb:digitB c=b) (w:World) :
  Calls Tryz.prog 117 #[.int .u8 ((c.toNat:Nat):Int)] w fun e w'=>e=.returned (.bool b)∧w=w':=by
 have HB:=hD hb
 clear hb
 by_cases h1:(48:Int)≤((c.toNat:Nat):Int)
 ·by_cases h2:((c.toNat:Nat):Int)≤57
  ·go_enter Tryz.func117,Tryz.ntmps117
   go_wp2_with fail
   go_ret
   refine⟨?_,rfl⟩
   rw [← HB.out]
   show Ending.returned (.bool _)=_
   congr 2
   simp [digitB]
   omega
  ·go_enter Tryz.func117,Tryz.ntmps117
   go_wp2_with fail
   go_ret
   refine⟨?_,rfl⟩
   rw [← HB.out]
   show Ending.returned (.bool _)=_
   congr 2
   simp [digitB]
   omega
 ·go_enter Tryz.func117,Tryz.ntmps117
  go_wp2_with fail
  go_ret
  refine⟨?_,rfl⟩
  rw [← HB.out]
  show Ending.returned (.bool _)=_
  congr 2
  simp [digitB]
  omega
theorem zu10 (s:ByteArray) (w:World) (hs:s.size≤maxLen) :
  Calls Tryz.prog 85 #[.string s] w fun e w'=>e=.returned (.bool (nameOk s))∧w=w':=by
 unfold maxLen at hs
 obtain⟨zz,hzz⟩:∃ zz,nameOk s=zz:=⟨_,rfl⟩
 rw [hzz]
 have HV:=hD hzz
 clear hzz
 by_cases c1:s.size=0
 ·have HZ:Hid (zz=false):=by
   show _=_
   rw [← HV.out]
   simp [nameOk,c1]
  have c1':(s.size:Int)=0:=by omega
  go_enter Tryz.func85,Tryz.ntmps85
  go_wp2_with fail
  go_ret
  exact⟨by rw [HZ.out];rfl,rfl⟩
 ·have h1:((s.size:Int) == 0)=false:=by simp only [beq_eq_false_iff_ne,ne_eq];omega
  by_cases c2:32<s.size
  ·have HZ:Hid (zz=false):=by
    show _=_
    rw [← HV.out]
    simp [nameOk]
    omega
   have h2:32<(s.size:Int):=by omega
   go_enter Tryz.func85,Tryz.ntmps85
   go_wp2_with fail
   go_ret
   exact⟨by rw [HZ.out];rfl,rfl⟩
  ·have h2:¬ 32<(s.size:Int):=by omega
   have h0:0<s.size:=by omega
   have hd:=head_of s h0
   have HD:=hD hd
   clear hd c1 c2
   obtain⟨b,hb⟩:∃ b,lowerB s[0]=b:=⟨_,rfl⟩
   have HL:=hD hb
   clear hb
   cases b
   ·have HZ:Hid (zz=false):=by
     show _=_
     rw [← HV.out]
     simp [nameOk,HD.out,HL.out]
    go_enter Tryz.func85,Tryz.ntmps85
    go_wp2_with (go_at_call 116;refine(zr4 s[0] HL.out _).mono ?_;rintro e w' ⟨rfl,rfl⟩)
    go_ret
    exact⟨by rw [HZ.out];rfl,rfl⟩
   ·have HZ:Hid (zz=s.data.toList.all nameB):=by
     show _=_
     have e2:decide (1≤s.size)=true:=by simp;omega
     have e3:decide (s.size≤32)=true:=by simp;omega
     rw [← HV.out]
     simp only [nameOk,HD.out,HL.out,e2,e3,Option.any_some,Bool.true_and]
    go_enter Tryz.func85,Tryz.ntmps85
    go_wp2_with (go_at_call 116;refine(zr4 s[0] HL.out _).mono ?_;rintro e w' ⟨rfl,rfl⟩)
    go_loop [20] (fun i=>∃ j:Nat,j≤s.size∧i=.int .i64 j∧Hid ((s.data.toList.take j).all nameB=true)) (fun i=>s.size - (intOf i).toNat)
    case atStart=>exact⟨0,Nat.zero_le _,rfl,by simp [Hid]⟩
    case round=>
     obtain⟨j,hj,rfl,HA⟩:=hrel
     by_cases hlt:j<s.size
     ·have HS:=hD (zl12 s j hlt)
      have HN:=hD (fun hb=>zq17 s j hlt hb)
      obtain⟨b,hb⟩:∃ b,lowerB s[j]=b:=⟨_,rfl⟩
      have HL2:=hD hb
      clear hb
      cases b
      ·obtain⟨b,hb⟩:∃ b,digitB s[j]=b:=⟨_,rfl⟩
       have HL3:=hD hb
       clear hb
       cases b
       ·have HZ2:Hid (zz=false):=by
         show _=_
         rw [HZ.out,HN.out (by rw [zb13,HL2.out,HL3.out];rfl)]
        go_wp2_with (first
         | (go_at_call 116;refine(zr4 s[j] HL2.out _).mono ?_;rintro e w' ⟨rfl,rfl⟩)
         | (go_at_call 117;refine(zv17 s[j] HL3.out _).mono ?_;rintro e w' ⟨rfl,rfl⟩))
        go_ret
        exact⟨by rw [HZ2.out];rfl,rfl⟩
       ·have HA2:Hid ((s.data.toList.take (j+1)).all nameB=true):=by
         show _=_
         rw [HS.out,List.all_append,HA.out]
         simp [zb13,HL3.out]
        go_wp2_with (first
         | (go_at_call 116;refine(zr4 s[j] HL2.out _).mono ?_;rintro e w' ⟨rfl,rfl⟩)
         | (go_at_call 117;refine(zv17 s[j] HL3.out _).mono ?_;rintro e w' ⟨rfl,rfl⟩))
        go_round
        case rel=>exact⟨j+1,by omega,by go_num,HA2⟩
        case measure=>simp [intOf];omega
      ·have HA2:Hid ((s.data.toList.take (j+1)).all nameB=true):=by
        show _=_
        rw [HS.out,List.all_append,HA.out]
        simp [zb13,HL2.out]
       go_wp2_with (go_at_call 116;refine(zr4 s[j] HL2.out _).mono ?_;rintro e w' ⟨rfl,rfl⟩)
       go_round
       case rel=>exact⟨j+1,by omega,by go_num,HA2⟩
       case measure=>simp [intOf];omega
     ·have hge:(s.size:Int)≤(j:Int):=by omega
      have HF:Hid (zz=true):=by
       have:=HA.out
       rw [List.take_of_length_le (by simp;omega)] at this
       show _=_
       rw [HZ.out,this]
      go_wp2_with fail
      go_ret
      exact⟨by rw [HF.out];rfl,rfl⟩
theorem zb9 {b:Bool} (s:ByteArray) (hb:nameOk s=b) (w:World) (hs:s.size≤maxLen) :
  Calls Tryz.prog 85 #[.string s] w fun e w'=>e=.returned (.bool b)∧w=w':=by
 subst hb
 exact zu10 s w hs
end Go.Proofs.YtlmbiafloiompaaGreatDoor

namespace Go.Proofs.YtlmbiafloiompaaGreatDoor
open Go Go.RowKit Go.WideShapes Go.ChangeShapes
theorem ret_b {a b:Bool} (h:a=b):Ending.returned (.bool a)=.returned (.bool b):=by rw [h]
theorem span_any (kind:Int) (h0:0≤kind) (h1:kind≤9) (w:World) :
  Calls Tryz.prog 145 #[.int .i64 kind] w fun e w'=>e=.returned (.tuple #[.int .i64 (lowOf kind),.int .i64 (highOf kind)])∧w=w':=by
 have hk:kind=0 ∨ kind=1 ∨ kind=2 ∨ kind=3 ∨ kind=4 ∨ kind=5 ∨ kind=6 ∨ kind=7 ∨ kind=8 ∨ kind=9:=by omega
 clear h0 h1
 rcases hk with rfl | rfl | rfl | rfl | rfl | rfl | rfl | rfl | rfl | rfl
 all_goals
  go_enter Tryz.func145,Tryz.ntmps145
  go_wp2
  go_ret2
  exact⟨rfl,rfl⟩
set_option maxHeartbeats 1000000 in
theorem may_any (op kind n:Int) (h0:0≤kind) (h1:kind≤9) (w:World) :
  Calls Tryz.prog 118 #[.int .i64 op,.int .i64 kind,.int .i64 n] w fun e w'=>e=.returned (.bool (mayB op kind n))∧w=w':=by
 have HS:=hD (span_any kind h0 h1 w)
 obtain⟨lo,hlo⟩:∃ lo,lowOf kind=lo:=⟨_,rfl⟩
 obtain⟨hi,hhi⟩:∃ hi,highOf kind=hi:=⟨_,rfl⟩
 have hm:mayB op kind n=decide ((op=26∧n=65535) ∨ (lo≤n∧n≤hi)):=by rw [mayB,hlo,hhi]
 rw [hlo,hhi] at HS
 rw [hm]
 clear hm hlo hhi
 by_cases h26:op=26
 ·subst h26
  by_cases hn:n=65535
  ·subst hn
   go_enter Tryz.func118,Tryz.ntmps118
   go_wp2
   go_ret
   exact⟨by simp,rfl⟩
  ·have hn':(n == 65535)=false:=by simpa using hn
   go_enter Tryz.func118,Tryz.ntmps118
   go_wp2_with (refine HS.out.mono ?_;rintro e w' ⟨rfl,rfl⟩)
   all_goals
    go_ret
    refine⟨ret_b ?_,rfl⟩
    rw [Bool.eq_iff_iff]
    simp
    omega
 ·have h26':(op == 26)=false:=by simpa using h26
  go_enter Tryz.func118,Tryz.ntmps118
  go_wp2_with (refine HS.out.mono ?_;rintro e w' ⟨rfl,rfl⟩)
  all_goals
   go_ret
   refine⟨ret_b ?_,rfl⟩
   rw [Bool.eq_iff_iff]
   simp
   omega
def NewInts (w:World) (l:List Int) (e:Ending) (w':World):Prop:=
 (l=[]∧e=.returned (.slice none 0 0)∧w'=w) ∨
  (l≠[]∧e=.returned (.slice (some ⟨w.heap.size,0,none⟩) l.length l.length)∧w'=w.alloc (.cells (l.map (Value.int .i64)).toArray 3))
set_option maxHeartbeats 8000000 in
theorem za3 (op:Int) (w:World) :
  Calls Tryz.prog 79 #[.int .i64 op] w (NewInts w (opsOf op)):=by
 by_cases h:0≤op∧op≤26
 ·obtain⟨h0,h1⟩:=h
  have hk:op=0 ∨ op=1 ∨ op=2 ∨ op=3 ∨ op=4 ∨ op=5 ∨ op=6 ∨ op=7 ∨ op=8 ∨ op=9 ∨ op=10 ∨ op=11 ∨ op=12 ∨ op=13 ∨ op=14 ∨ op=15 ∨ op=16 ∨ op=17 ∨ op=18 ∨ op=19 ∨ op=20 ∨ op=21 ∨ op=22 ∨ op=23 ∨ op=24 ∨ op=25 ∨ op=26:=by omega
  clear h0 h1
  rcases hk with rfl | rfl | rfl | rfl | rfl | rfl | rfl | rfl | rfl | rfl | rfl | rfl | rfl | rfl | rfl | rfl | rfl | rfl | rfl | rfl | rfl | rfl | rfl | rfl | rfl | rfl | rfl
  all_goals
   go_enter Tryz.func79,Tryz.ntmps79
   go_wp2
   go_ret
   first
    | exact .inl ⟨rfl,rfl,rfl⟩
    | exact .inr ⟨by decide,rfl,rfl⟩
 ·have he:opsOf op=[]:=by
   unfold opsOf
   repeat rw [if_neg (by omega)]
  rw [he]
  have h1:(op == 1)=false:=by simp;omega
  have h2:(op == 2)=false:=by simp;omega
  have h10:(op == 10)=false:=by simp;omega
  have h11:(op == 11)=false:=by simp;omega
  have h3:(op == 3)=false:=by simp;omega
  have h12:(op == 12)=false:=by simp;omega
  have h4:(op == 4)=false:=by simp;omega
  have h13:(op == 13)=false:=by simp;omega
  have h5:(op == 5)=false:=by simp;omega
  have h14:(op == 14)=false:=by simp;omega
  have h6:(op == 6)=false:=by simp;omega
  have h7:(op == 7)=false:=by simp;omega
  have h8:(op == 8)=false:=by simp;omega
  have h9:(op == 9)=false:=by simp;omega
  have h15:(op == 15)=false:=by simp;omega
  have h17:(op == 17)=false:=by simp;omega
  have h18:(op == 18)=false:=by simp;omega
  have h20:(op == 20)=false:=by simp;omega
  have h21:(op == 21)=false:=by simp;omega
  have h24:(op == 24)=false:=by simp;omega
  have h25:(op == 25)=false:=by simp;omega
  have h26:(op == 26)=false:=by simp;omega
  clear h he
  go_enter Tryz.func79,Tryz.ntmps79
  go_wp2
  go_ret
  exact .inl ⟨rfl,rfl,rfl⟩
def namesArr:Array Value:=((List.range 27).map fun k=>Value.string (nameAt k)).toArray
def NamesAt (w:World):Prop:=∃ t fr,w.heap[0]?=some (.cells namesArr t fr)
theorem zt9 (k:Nat) (h:k<27):namesArr[k]?=some (.string (nameAt k)):=by
 unfold namesArr
 simp [h]
theorem NamesAt.cell {w:World} (h:NamesAt w) (k:Nat) (hk:k<27):w.cell? ⟨0,k,none⟩=some (.string (nameAt k)):=by
 obtain⟨t,fr,h⟩:=h
 exact(cell_of_row w _ k namesArr t fr h).trans (zt9 k hk)
theorem NamesAt.below {w w':World} {B:Nat} (h:NamesAt w) (hb:Below B w w') (hB:0<B):NamesAt w':=by
 obtain⟨t,fr,h⟩:=h
 exact⟨t,fr,(hb.block _ hB).trans h⟩
theorem NamesAt.lt {w:World} (h:NamesAt w):0<w.heap.size:=by
 obtain⟨t,fr,h⟩:=h
 exact(Array.getElem?_eq_some_iff.1 h).1
theorem ze4 (op:Int) (w:World) (hw:NamesAt w) :
  Calls Tryz.prog 87 #[.int .i64 op] w fun e w'=>e=.returned (.string (nameOf op))∧w=w':=by
 by_cases h:0≤op∧op≤26
 ·have hn:nameOf op=nameAt op.toNat:=if_pos h
  obtain⟨k,rfl⟩:=Int.eq_ofNat_of_zero_le h.1
  have hk:k≤26:=by omega
  have hc:=hw.cell k (by omega)
  rw [hn]
  simp only [Int.toNat_natCast]
  clear hn h hw
  generalize nameAt k=s at hc ⊢
  go_enter Tryz.func87,Tryz.ntmps87
  go_wp2
  go_ret
  exact⟨rfl,rfl⟩
 ·have hn:nameOf op=⟨#[]⟩:=if_neg h
  rw [hn]
  clear hn hw
  by_cases h0:op<0
  ·clear h
   go_enter Tryz.func87,Tryz.ntmps87
   go_wp2
   go_ret
   exact⟨rfl,rfl⟩
  ·have h1:27≤op:=by omega
   clear h
   go_enter Tryz.func87,Tryz.ntmps87
   go_wp2
   go_ret
   exact⟨rfl,rfl⟩
theorem zk3 {P:Program} (w:World) (t e:TypeId) (n:Nat) (cs:Array Value) (k:IntKind) (i:Nat) (v:Value) (h:P.underlying t=some (.array n e)) (he:∀ w,(sizeOf e).run P w=.ok 1 w) (ha:∀ w,(isAgg e).run P w=.ok false w) (hi:i<n) (hv:cs[i]?=some v) :
  (Instr.index t (.agg cs) (.int k (i:Int))).run P w=.ok v w:=by
 have h1:0≤(i:Int)∧(i:Int)<(n:Int):=by omega
 simp [Instr.index,run_underlying h,asIntOf,hi,he,ha,hv,go_sem]
theorem zz1 {a b:ByteArray} (h:¬ a=b):(a.toList == b.toList)=false:=by
 rw [beq_eq_false_iff_ne]
 intro e
 rw [ByteArray.toList_eq,ByteArray.toList_eq] at e
 exact h (ByteArray.ext (Array.ext' e))
def namedFrom (s:ByteArray):Nat→Nat→Int
 | _,0=>-1
 | k,n+1=>if nameAt k=s then(k:Int) else namedFrom s (k+1) n
def namedOf (s:ByteArray):Int:=namedFrom s 0 27
theorem zs4 (s:ByteArray) (k n:Nat):namedFrom s k (n+1)=if nameAt k=s then(k:Int) else namedFrom s (k+1) n:=rfl
set_option maxRecDepth 100000 in
set_option maxHeartbeats 1000000 in
theorem zs9 (s:ByteArray) (w:World) (hw:NamesAt w) :
  Calls Tryz.prog 80 #[.string s] w fun e w'=>e=.returned (.int .i64 (namedOf s))∧w=w':=by
 obtain⟨tt,fr,hb⟩:=id hw
 have hs1:∀ w,(sizeOf 9).run Tryz.prog w=.ok 1 w:=fun _=>by kernel_rfl
 have ha1:∀ w,(isAgg 9).run Tryz.prog w=.ok false w:=fun _=>by kernel_rfl
 have HS1:=hD hs1
 have HA1:=hD ha1
 have HB:=hD hb
 clear hs1 ha1 hb hw
 go_enter Tryz.func80,Tryz.ntmps80
 go_wp2_with (refine wpList_load_row rfl 184 _ rfl 0 rfl tt _ fr _ HB.out Tryz.underlying184 rfl (by kernel_rfl) ?_)
 go_loop [6] (fun i=>∃ k:Nat,k≤27∧i=.int .i64 k∧namedOf s=namedFrom s k (27 - k)) (fun i=>27 - (intOf i).toNat)
 case atStart=>exact⟨0,by omega,rfl,rfl⟩
 case round=>
  obtain⟨k,hk,rfl,hf⟩:=hrel
  by_cases hlt:k<27
  ·have hidx:=zk3 (P:=Tryz.prog) w 184 9 27 namesArr .i64 k _ Tryz.underlying184 HS1.out HA1.out hlt (zt9 k hlt)
   rw [show 27 - k=(27 - (k+1))+1 by omega,zs4] at hf
   have HF:=hD hf
   clear hf
   by_cases he:nameAt k=s
   ·subst he
    have hx:namedOf (nameAt k)=(k:Int):=by rw [HF.out,if_pos rfl]
    have HX:=hD hx
    clear hx HF
    go_wp2
    go_ret
    exact⟨by rw [HX.out];rfl,rfl⟩
   ·have hne:=zz1 he
    have hx:namedOf s=namedFrom s (k+1) (27 - (k+1)):=by rw [HF.out,if_neg he]
    have HX:=hD hx
    clear hx HF he
    go_wp2
    go_round
    case rel=>exact⟨k+1,by omega,by go_num,HX.out⟩
    case measure=>simp [intOf];omega
  ·obtain rfl:k=27:=by omega
   have HF:=hD hf
   clear hf
   go_wp2
   go_ret
   exact⟨by rw [HF.out];rfl,rfl⟩
def insV (op a b c d:Int):Value:=.agg #[.int .i64 op,.int .i64 a,.int .i64 b,.int .i64 c,.int .i64 d]
def IntsAt (w:World) (v:Value) (l:List Int):Prop:=
 (l=[]∧∃ A c,v=.slice A 0 c) ∨
  ∃ b off c,v=.slice (some ⟨b,off,none⟩) l.length c∧∀ k,k<l.length→w.cell? ⟨b,off+k,none⟩=some (.int .i64 (l.getD k 0))
theorem IntsAt.below {w w':World} {v:Value} {l:List Int} (h:IntsAt w v l) (hb:Below w.heap.size w w'):IntsAt w' v l:=by
 rcases h with h | ⟨b,off,c,rfl,hc⟩
 ·exact .inl h
 ·exact .inr ⟨b,off,c,rfl,fun k hk=>(hb.cell (p:=⟨b,off+k,none⟩) (World.block_lt_of_cell? w _ (hc k hk))).trans (hc k hk)⟩
theorem za (w:World) (o:Obj):Below w.heap.size w (w.alloc o):=(Below.refl _ w).alloc (Nat.le_refl _) o
theorem za1 (w:World) (o p:Obj):Below w.heap.size w ((w.alloc o).alloc p):=((Below.refl _ w).alloc (Nat.le_refl _) o).alloc (by simp) p
theorem to_any (op a b c d:Int) (w:World) :
  Calls Tryz.prog 14 #[insV op a b c d] w fun e w'=>e=.returned (insV op a b c d)∧Below w.heap.size w w':=by
 unfold insV
 go_enter Tryz.func14,Tryz.ntmps14
 go_wp2
 exact bodyPost_ret (v:=.agg #[.int .i64 op,.int .i64 a,.int .i64 b,.int .i64 c,.int .i64 d]) (by simp [results,Tryz.results14,go_sem]) rfl ⟨rfl,za1 w _ _⟩
theorem from_any (op a b c d:Int) (w:World) :
  Calls Tryz.prog 18 #[insV op a b c d] w fun e w'=>e=.returned (insV op a b c d)∧Below w.heap.size w w':=by
 unfold insV
 go_enter Tryz.func18,Tryz.ntmps18
 go_wp2
 exact bodyPost_ret (v:=.agg #[.int .i64 op,.int .i64 a,.int .i64 b,.int .i64 c,.int .i64 d]) (by simp [results,Tryz.results18,go_sem]) rfl ⟨rfl,za1 w _ _⟩
theorem zf17 (op:Int) (l:List Int):splice [Value.int .i64 op,.int .i64 0,.int .i64 0,.int .i64 0,.int .i64 0] 1 ((l.take 4).map (Value.int .i64)) =
  [Value.int .i64 op,.int .i64 (l.getD 0 0),.int .i64 (l.getD 1 0),.int .i64 (l.getD 2 0),.int .i64 (l.getD 3 0)]:=by
 match l with
 | []=>rfl
 | [a]=>rfl
 | [a,b]=>rfl
 | [a,b,c]=>rfl
 | a :: b :: c :: d :: r=>rfl
set_option maxHeartbeats 1000000 in
theorem zj18 (op:Int) (l:List Int) (v:Value) (w:World) (hv:IntsAt w v l) :
  Calls Tryz.prog 111 #[.int .i64 op,v] w fun e w'=>e=.returned (insV op (l.getD 0 0) (l.getD 1 0) (l.getD 2 0) (l.getD 3 0))∧Below w.heap.size w w':=by
 have hform:∃ A n c,v=.slice A n c∧n=l.length∧(0<n→∃ ad,A=some ad∧∀ j u,(l.map (Value.int .i64))[j]?=some u→w.cell? (ad.add j)=some u∧ad.block<w.heap.size):=by
  rcases hv with⟨rfl,A,c,rfl⟩ | ⟨b,off,c,rfl,hc⟩
  ·exact⟨A,0,c,rfl,rfl,fun h=>absurd h (by omega)⟩
  ·refine⟨_,l.length,c,rfl,rfl,fun _=>⟨_,rfl,fun j u hu=>?_⟩⟩
   rw [List.getElem?_map] at hu
   cases hq:l[j]? with
   | none=>simp [hq] at hu
   | some x=>
    rw [hq] at hu
    obtain rfl:Value.int .i64 x=u:=by simpa using hu
    have hj:j<l.length:=(List.getElem?_eq_some_iff.1 hq).1
    have h1:=hc j hj
    rw [List.getD_eq_getElem?_getD,hq] at h1
    rw [add_plain]
    exact⟨h1,World.block_lt_of_cell? w ⟨b,off+j,none⟩ h1⟩
 obtain⟨A,n,c,rfl,hn,hsrc⟩:=hform
 have HN:=hD hn
 have HSRC:=hD hsrc
 clear hv hn hsrc
 have hcs:∃ cs:List Value,cs.length=Nat.min n 4∧(∀ (i:Nat) (u:Value),cs[i]?=some u→(l.map (Value.int .i64))[i]?=some u)∧(∀ u ∈ cs,u.oneCell'=true) ∧
   splice [Value.int .i64 op,.int .i64 0,.int .i64 0,.int .i64 0,.int .i64 0] 1 cs=[Value.int .i64 op,.int .i64 (l.getD 0 0),.int .i64 (l.getD 1 0),.int .i64 (l.getD 2 0),.int .i64 (l.getD 3 0)]:=by
  refine⟨(l.take 4).map (Value.int .i64),?_,?_,?_,zf17 op l⟩
  ·rw [List.length_map,List.length_take,HN.out,Nat.min_comm]
  ·intro i u hu
   rw [List.map_take,List.getElem?_take] at hu
   split at hu
   ·exact hu
   ·cases hu
  ·intro u hu
   obtain⟨x,_,rfl⟩:=List.mem_map.1 hu
   rfl
 obtain⟨cs,hlen,hz,hone,hspl⟩:=hcs
 have hle4:cs.length≤4:=by rw [hlen];exact Nat.min_le_right _ _
 have hlen0:0<cs.length→0<n:=by rw [hlen];intro h;exact Nat.lt_of_lt_of_le h (Nat.min_le_left _ _)
 have HZ:=hD hz
 have HLEN:=hD hlen
 have HONE:=hD hone
 have HSPL:=hD hspl
 have HLE4:=hD hle4
 have HLEN0:=hD hlen0
 clear hz hlen hone hspl hle4 hlen0
 have hblk:((w.alloc (.cells #[.int .i64 0,.int .i64 0,.int .i64 0,.int .i64 0,.int .i64 0] 65)).alloc (.cells #[.int .i64 op,.int .i64 0,.int .i64 0,.int .i64 0,.int .i64 0] 65)).heap[w.heap.size+1]?=some (.cells [Value.int .i64 op,.int .i64 0,.int .i64 0,.int .i64 0,.int .i64 0].toArray 65 (0,0)):=by
  have h:=heap_alloc_new (w.alloc (.cells #[.int .i64 0,.int .i64 0,.int .i64 0,.int .i64 0,.int .i64 0] 65)) (.cells #[.int .i64 op,.int .i64 0,.int .i64 0,.int .i64 0,.int .i64 0] 65)
  rw [show(w.alloc (.cells #[.int .i64 0,.int .i64 0,.int .i64 0,.int .i64 0,.int .i64 0] 65)).heap.size=w.heap.size+1 by simp] at h
  exact h
 have HBLK:=hD hblk
 have hres:Box ((w.alloc (.cells #[.int .i64 0,.int .i64 0,.int .i64 0,.int .i64 0,.int .i64 0] 65)).alloc (.cells #[.int .i64 op,.int .i64 0,.int .i64 0,.int .i64 0,.int .i64 0] 65)) w.heap.size 65 #[.int .i64 0,.int .i64 0,.int .i64 0,.int .i64 0,.int .i64 0]:=(Box.new w _ _).alloc _
 have HRES:=hD hres
 clear hblk hres
 unfold insV
 go_enter Tryz.func111,Tryz.ntmps111
 go_upto_region 2 with(fail)
 go_wp2_with (with_reducible refine wpList_copy_splice rfl _ _ _ _ rfl 3 Tryz.underlying73 (by kernel_rfl) _ _ 4 4 n c rfl rfl (w.heap.size+1) 1 [Value.int .i64 op,.int .i64 0,.int .i64 0,.int .i64 0,.int .i64 0] 65 HBLK.out cs HLEN.out ?c1 ?c2 HONE.out (w.heap.size+1) _ (Below.refl _ _) (Nat.le_refl _) ?_)
 case c1=>
  intro h0
  obtain⟨ad,h1,h2⟩:=HSRC.out (HLEN0.out h0)
  refine⟨ad,h1,fun j u hu=>?_⟩
  obtain⟨h3,h4⟩:=h2 j u (HZ.out j u hu)
  have h5:(ad.add j).block=ad.block:=by unfold Addr.add;split <;> rfl
  refine(zf6 _ _ ?_).trans ((zf6 w _ ?_).trans h3)
  ·rw [h5];simp;omega
  ·rw [h5];exact h4
 case c2=>have:=HLE4.out;simp only [List.length_cons,List.length_nil];omega
 rintro w1 hb1 hbel1
 have hbox:Box w1 (w.heap.size+1) 65 #[.int .i64 op,.int .i64 (l.getD 0 0),.int .i64 (l.getD 1 0),.int .i64 (l.getD 2 0),.int .i64 (l.getD 3 0)]:=by
  have h:=hb1.out
  rw [HSPL.out] at h
  exact h
 have hres1:Box w1 w.heap.size 65 #[.int .i64 0,.int .i64 0,.int .i64 0,.int .i64 0,.int .i64 0]:=HRES.out.below hbel1 (by omega)
 have HBEL:Hid (Below w.heap.size w w1):=hD ((za1 w _ _).trans (hbel1.mono (by omega)))
 obtain⟨a0,ha0⟩:∃ x,l.getD 0 0=x:=⟨_,rfl⟩
 rw [ha0] at hbox
 have HA0:=hD ha0
 clear ha0
 obtain⟨a1,ha1⟩:∃ x,l.getD 1 0=x:=⟨_,rfl⟩
 rw [ha1] at hbox
 have HA1:=hD ha1
 clear ha1
 obtain⟨a2,ha2⟩:∃ x,l.getD 2 0=x:=⟨_,rfl⟩
 rw [ha2] at hbox
 have HA2:=hD ha2
 clear ha2
 obtain⟨a3,ha3⟩:∃ x,l.getD 3 0=x:=⟨_,rfl⟩
 rw [ha3] at hbox
 have HA3:=hD ha3
 clear ha3
 have c0:=hbox.cell 0
 have c1:=hbox.cell 1
 have c2:=hbox.cell 2
 have c3:=hbox.cell 3
 have c4:=hbox.cell 4
 have d0:=hres1.cell 0
 have d1:=hres1.cell 1
 have d2:=hres1.cell 2
 have d3:=hres1.cell 3
 have d4:=hres1.cell 4
 have f0:=hres1.frozen 0
 have f1:=hres1.frozen 1
 have f2:=hres1.frozen 2
 have f3:=hres1.frozen 3
 have f4:=hres1.frozen 4
 have HRES1:=hD hres1
 clear hb1 hbel1 hres1 hbox
 go_wp2
 have hb5:Box (((((w1.setCell ⟨w.heap.size,0,none⟩ (.int .i64 op)).setCell ⟨w.heap.size,1,none⟩ (.int .i64 a0)).setCell ⟨w.heap.size,2,none⟩ (.int .i64 a1)).setCell ⟨w.heap.size,3,none⟩ (.int .i64 a2)).setCell ⟨w.heap.size,4,none⟩ (.int .i64 a3)) w.heap.size 65 #[.int .i64 op,.int .i64 a0,.int .i64 a1,.int .i64 a2,.int .i64 a3]:=
  ((((HRES1.out.set_ 0 _).set_ 1 _).set_ 2 _).set_ 3 _).set_ 4 _
 refine bodyPost_ret (v:=.agg #[.int .i64 op,.int .i64 a0,.int .i64 a1,.int .i64 a2,.int .i64 a3]) (results_cell_row rfl _ _ w.heap.size 65 _ (0,0) _ rfl hb5 Tryz.underlying65 rfl (by kernel_rfl)) rfl ⟨by rw [HA0.out,HA1.out,HA2.out,HA3.out],?_⟩
 exact((((HBEL.out.setCell (p:=⟨w.heap.size,0,none⟩) (Nat.le_refl _) _).setCell (p:=⟨w.heap.size,1,none⟩) (Nat.le_refl _) _).setCell (p:=⟨w.heap.size,2,none⟩) (Nat.le_refl _) _).setCell (p:=⟨w.heap.size,3,none⟩) (Nat.le_refl _) _).setCell (p:=⟨w.heap.size,4,none⟩) (Nat.le_refl _) _
theorem zv1 (op:Int):(opsOf op).length≤4:=by
 unfold opsOf
 repeat (first | (split <;> try decide) | decide)
theorem zg4 (op:Int) (k:Nat):0≤(opsOf op).getD k 0∧(opsOf op).getD k 0≤9:=by
 by_cases h:0≤op∧op≤26
 ·rw [List.getD_eq_getElem?_getD]
  cases hq:(opsOf op)[k]? with
  | none=>simp
  | some x=>
   have hm:=span_list op (by
    obtain⟨j,rfl⟩:=Int.eq_ofNat_of_zero_le h.1
    have hj:j<27:=by omega
    have:∀ j:Nat,j<27→((j:Nat):Int) ∈ ([0,1,2,3,4,5,6,7,8,9,10,11,12,13,14,15,16,17,18,19,20,21,22,23,24,25,26]:List Int):=by decide
    exact this j hj) x (List.mem_of_getElem? hq)
   simp only [Option.getD_some]
   omega
 ·have he:opsOf op=[]:=by
   unfold opsOf
   repeat rw [if_neg (by omega)]
  rw [he]
  simp
theorem zh3 (op:Int) (h:opsOf op=[]) (w:World):Calls Tryz.prog 79 #[.int .i64 op] w fun e w'=>e=.returned (.slice none 0 0)∧w=w':=
 (za3 op w).mono fun e w' hn=>by
  rcases hn with⟨_,h1,h2⟩ | ⟨h0,_⟩
  ·exact⟨h1,h2.symm⟩
  ·exact absurd h h0
theorem zi3 (op:Int) (n:Nat) (hn:(opsOf op).length=n) (h:0<n) (w:World) :
  Calls Tryz.prog 79 #[.int .i64 op] w fun e w'=>e=.returned (.slice (some ⟨w.heap.size,0,none⟩) n n)∧w.alloc (.cells ((opsOf op).map (Value.int .i64)).toArray 3)=w':=
 (za3 op w).mono fun e w' hn'=>by
  rcases hn' with⟨h0,_⟩ | ⟨_,h1,h2⟩
  ·rw [h0] at hn
   simp at hn
   omega
  ·rw [hn] at h1
   exact⟨h1,h2.symm⟩
theorem zr15 (l:List Int) (h:l.length≤4):splice [Value.int .i64 0,.int .i64 0,.int .i64 0,.int .i64 0] 0 (l.map (Value.int .i64)) =
  [Value.int .i64 (l.getD 0 0),.int .i64 (l.getD 1 0),.int .i64 (l.getD 2 0),.int .i64 (l.getD 3 0)]:=by
 match l,h with
 | [],_=>rfl
 | [a],_=>rfl
 | [a,b],_=>rfl
 | [a,b,c],_=>rfl
 | [a,b,c,d],_=>rfl
theorem zf4 (k:Nat) (h:k<27):(nameAt k).toList.isEmpty=false:=by
 rw [ByteArray.toList_eq]
 have:∀ k,k<27→(nameAt k).data.toList.isEmpty=false:=by decide
 exact this k h
theorem right_out (op a b c d:Int) (h:¬ (0≤op∧op≤26)) (w:World) (hw:NamesAt w) :
  Calls Tryz.prog 88 #[insV op a b c d] w fun e w'=>e=.returned (.bool (rightB op [a,b,c,d]))∧Below w.heap.size w w':=by
 have hr:rightB op [a,b,c,d]=false:=by rw [rightB,decide_eq_false h];rfl
 have hn:nameOf op=⟨#[]⟩:=if_neg h
 rw [hr]
 have HW:=hD hw
 have hnm:=fun w (hw:NamesAt w)=>ze4 op w hw
 rw [hn] at hnm
 have HNM:=hD hnm
 clear hr hn hnm h hw
 unfold insV
 go_enter Tryz.func88,Tryz.ntmps88
 go_wp2_with (refine(HNM.out _ (HW.out.below (za w _) HW.out.lt)).mono ?_;rintro e w' ⟨rfl,rfl⟩)
 go_ret
 exact⟨rfl,za w _⟩
structure KindsAt (B:Nat) (op a b c d:Int) (w0 w:World):Prop where
 ins:Box w B 65 #[.int .i64 op,.int .i64 a,.int .i64 b,.int .i64 c,.int .i64 d]
 kinds:Box w (B+1) 52 #[.int .i64 ((opsOf op).getD 0 0),.int .i64 ((opsOf op).getD 1 0),.int .i64 ((opsOf op).getD 2 0),.int .i64 ((opsOf op).getD 3 0)]
 below:Below B w0 w
theorem KindsAt.drewN {B:Nat} {op a b c d:Int} {w0 w:World} (h:KindsAt B op a b c d w0 w) (n:Nat):KindsAt B op a b c d w0 (w.drewN n):=
 ⟨h.ins,h.kinds,⟨h.below.os,h.below.tape,h.below.output,h.below.size,h.below.block⟩⟩
theorem KindsAt.cell {B:Nat} {op a b c d:Int} {w0 w:World} (h:KindsAt B op a b c d w0 w) (k:Nat) (hk:k<4):w.cell? ⟨B+1,k,none⟩=some (.int .i64 ((opsOf op).getD k 0)):=by
 rw [h.kinds.cell k]
 match k,hk with
 | 0,_=>rfl
 | 1,_=>rfl
 | 2,_=>rfl
 | 3,_=>rfl
theorem zt6 (op a b c d:Int) (h:0≤op∧op≤26) (hk:∀ j,j<4→mayB op ((opsOf op).getD j 0) ([a,b,c,d].getD j 0)=true):rightB op [a,b,c,d]=true:=by
 rw [rightB,decide_eq_true h,Bool.true_and,List.all_eq_true]
 intro k hk'
 exact hk k (List.mem_range.1 hk')
theorem zv6 (op a b c d:Int) (k:Nat) (hk4:k<4) (hk:mayB op ((opsOf op).getD k 0) ([a,b,c,d].getD k 0)=false):rightB op [a,b,c,d]=false:=by
 rw [rightB]
 have:((List.range 4).all fun k=>mayB op ((opsOf op).getD k 0) ([a,b,c,d].getD k 0))=false:=by
  rw [Bool.eq_false_iff]
  intro hx
  rw [List.all_eq_true] at hx
  have:=hx k (List.mem_range.2 hk4)
  rw [hk] at this
  cases this
 rw [this,Bool.and_false]
set_option maxRecDepth 100000 in
set_option maxHeartbeats 2000000 in
theorem zs20 (op a b c d:Int) (h:0≤op∧op≤26) (ho:opsOf op=[]) (w:World) (hw:NamesAt w) :
  Calls Tryz.prog 88 #[insV op a b c d] w fun e w'=>e=.returned (.bool (rightB op [a,b,c,d]))∧Below w.heap.size w w':=by
 obtain⟨m,hm⟩:=Int.eq_ofNat_of_zero_le h.1
 have hne:=zf4 m (by omega)
 have hnm:nameOf op=nameAt m:=by rw [hm];rw [nameOf,if_pos (by omega)];rfl
 have HH:=hD h
 have HOPS:=fun w=>zh3 op ho w
 have HALL:=hD (zt6 op a b c d h)
 have HNOT:=hD (zv6 op a b c d)
 have HKND:=hD (zg4 op)
 have HFEW:=hD (zv1 op)
 have HMAY:=hD (fun kind n h0 h1 w=>may_any op kind n h0 h1 w)
 have HNAME:=hD (fun w hw=>hnm ▸ ze4 op w hw)
 have HW:=hD hw
 have HO:=hD HOPS
 obtain⟨nm,hnmx⟩:∃ nm,nameAt m=nm:=⟨_,rfl⟩
 rw [hnmx] at hne HNAME
 have hbx:Box ((w.alloc (.cells #[.int .i64 op,.int .i64 a,.int .i64 b,.int .i64 c,.int .i64 d] 65)).alloc (.cells #[.int .i64 0,.int .i64 0,.int .i64 0,.int .i64 0] 52)) w.heap.size 65 #[.int .i64 op,.int .i64 a,.int .i64 b,.int .i64 c,.int .i64 d]:=(Box.new w _ _).alloc _
 have hbk:Box ((w.alloc (.cells #[.int .i64 op,.int .i64 a,.int .i64 b,.int .i64 c,.int .i64 d] 65)).alloc (.cells #[.int .i64 0,.int .i64 0,.int .i64 0,.int .i64 0] 52)) (w.heap.size+1) 52 #[.int .i64 0,.int .i64 0,.int .i64 0,.int .i64 0]:=by
  have h:=Box.new (w.alloc (.cells #[.int .i64 op,.int .i64 a,.int .i64 b,.int .i64 c,.int .i64 d] 65)) 52 #[.int .i64 0,.int .i64 0,.int .i64 0,.int .i64 0]
  rw [show(w.alloc (.cells #[.int .i64 op,.int .i64 a,.int .i64 b,.int .i64 c,.int .i64 d] 65)).heap.size=w.heap.size+1 by simp] at h
  exact h
 have hbb:=za1 w (.cells #[.int .i64 op,.int .i64 a,.int .i64 b,.int .i64 c,.int .i64 d] 65) (.cells #[.int .i64 0,.int .i64 0,.int .i64 0,.int .i64 0] 52)
 have HBX:=hD hbx
 have HBK:=hD hbk
 have HBB:=hD hbb
 clear h hm hnm HOPS hw hnmx hbx hbk hbb
 have hspl:splice [Value.int .i64 0,.int .i64 0,.int .i64 0,.int .i64 0] 0 []=[Value.int .i64 ((opsOf op).getD 0 0),.int .i64 ((opsOf op).getD 1 0),.int .i64 ((opsOf op).getD 2 0),.int .i64 ((opsOf op).getD 3 0)]:=by rw [ho];rfl
 have HSPL:=hD hspl
 have HHO:=hD ho
 clear hspl ho
 unfold insV
 go_enter Tryz.func88,Tryz.ntmps88
 go_wp2_with (refine(HNAME.out _ (HW.out.below (za w _) HW.out.lt)).mono ?_;rintro e w' ⟨rfl,rfl⟩)
 clear hne
 go_region_law
  (first
   | (go_simp;go_at_call 79;(with_reducible refine(HO.out _).mono ?_);rintro e w5 ⟨rfl,rfl⟩)
   | (refine step_copy_splice rfl (.tmp 10) (.tmp 13) 73 73 rfl 3 Tryz.underlying73 (by kernel_rfl) _ _ 4 4 0 0 rfl rfl (w.heap.size+1) 0 [.int .i64 0,.int .i64 0,.int .i64 0,.int .i64 0] 52 HBK.out [] rfl (fun h=>absurd h (by decide)) (by decide) (fun _ h=>by cases h) (w.heap.size+1) _ (Below.refl _ _) (Nat.le_refl _) ?_;intro w4 hg4 hb4))
 have hK:KindsAt w.heap.size op a b c d w w4:=by
  have hb5:Below (w.heap.size+1) ((w.alloc (.cells #[.int .i64 op,.int .i64 a,.int .i64 b,.int .i64 c,.int .i64 d] 65)).alloc (.cells #[.int .i64 0,.int .i64 0,.int .i64 0,.int .i64 0] 52)) w4:=⟨hb4.os,hb4.tape,hb4.output,hb4.size,hb4.block⟩
  refine⟨HBX.out.below hb5 (by omega),?_,HBB.out.trans (hb5.mono (show w.heap.size≤w.heap.size+1 by omega))⟩
  have h:=hg4.out
  rw [HSPL.out] at h
  exact h
 have HK:=hD hK
 have b0:=hK.ins.cell 0
 have b1:=hK.ins.cell 1
 have b2:=hK.ins.cell 2
 have b3:=hK.ins.cell 3
 have b4:=hK.ins.cell 4
 clear hg4 hb4 hK
 go_wp2
 clear b0 b1 b2 b3 b4
 go_loopw [17] (fun i wr=>∃ k:Nat,k≤4∧i=.int .i64 k∧KindsAt w.heap.size op a b c d w wr∧∀ j,j<k→mayB op ((opsOf op).getD j 0) ([a,b,c,d].getD j 0)=true) (fun i _=>4 - (intOf i).toNat)
 case atStart=>exact⟨0,by omega,rfl,HK.out,fun j hj=>absurd hj (by omega)⟩
 case round=>
  obtain⟨k,hk,rfl,hkk,hall⟩:=hrel
  have HA:=hD hall
  clear hall
  by_cases hlt:k<4
  ·have hix:=zk3 (P:=Tryz.prog) wr 52 3 4 #[.int .i64 a,.int .i64 b,.int .i64 c,.int .i64 d] .i64 k (.int .i64 ([a,b,c,d].getD k 0)) Tryz.underlying52 (fun _=>by kernel_rfl) (fun _=>by kernel_rfl) hlt (by
    match k,hlt with
    | 0,_=>rfl
    | 1,_=>rfl
    | 2,_=>rfl
    | 3,_=>rfl)
   have hc0:wr.cell? ⟨w.heap.size,0,none⟩=some (.int .i64 op):=hkk.ins.cell 0
   have hck:=hkk.cell k hlt
   have hkd:=HKND.out k
   have hm:=HMAY.out _ ([a,b,c,d].getD k 0) hkd.1 hkd.2
   have HKK:=hD hkk
   have HN2:=hD (HNOT.out k hlt)
   clear hkk hkd
   obtain⟨x,hx⟩:∃ x,[a,b,c,d].getD k 0=x:=⟨_,rfl⟩
   obtain⟨y,hy⟩:∃ y,(opsOf op).getD k 0=y:=⟨_,rfl⟩
   rw [hx] at hix
   rw [hy] at hck
   rw [hx,hy] at hm HN2
   have HX:=hD hx
   have HY:=hD hy
   clear hx hy
   cases hB:mayB op y x
   ·rw [hB] at hm
    have HM:=hD hm
    have HN3:=hD (HN2.out hB)
    clear hm hB HN2
    go_wp2
    go_quiet ((go_at_call 118;exact Calls.quiet_of_same ((HM.out _).mono fun _ _ h=>⟨h.1,h.2.symm⟩)))
    go_wp2
    go_ret
    exact⟨ret_b HN3.out.symm,(HKK.out.drewN _).below⟩
   ·rw [hB] at hm
    have HM:=hD hm
    have HBF:=hD hB
    clear hm hB
    go_wp2
    go_quiet ((go_at_call 118;exact Calls.quiet_of_same ((HM.out _).mono fun _ _ h=>⟨h.1,h.2.symm⟩)))
    go_wp2
    go_roundw
    case rel=>exact⟨k+1,by omega,by go_num,HKK.out.drewN _,fun j hj=>by
     by_cases e:j=k
     ·subst e
      rw [HX.out,HY.out]
      exact HBF.out
     ·exact HA.out j (by omega)⟩
    case measure=>simp [intOf];omega
  ·obtain rfl:k=4:=by omega
   have HKK:=hD hkk
   have hr:=HALL.out HA.out
   have HR:=hD hr
   clear hkk hr
   go_wp2
   go_ret
   exact⟨ret_b HR.out.symm,HKK.out.below⟩
set_option maxRecDepth 100000 in
set_option maxHeartbeats 2000000 in
theorem zt20 (op a b c d:Int) (h:0≤op∧op≤26) (n:Nat) (hn:(opsOf op).length=n) (hn0:0<n) (w:World) (hw:NamesAt w) :
  Calls Tryz.prog 88 #[insV op a b c d] w fun e w'=>e=.returned (.bool (rightB op [a,b,c,d]))∧Below w.heap.size w w':=by
 obtain⟨m,hm⟩:=Int.eq_ofNat_of_zero_le h.1
 have hne:=zf4 m (by omega)
 have hnm:nameOf op=nameAt m:=by rw [hm];rw [nameOf,if_pos (by omega)];rfl
 have HH:=hD h
 have HOPS:=fun w=>zi3 op n hn hn0 w
 have HALL:=hD (zt6 op a b c d h)
 have HNOT:=hD (zv6 op a b c d)
 have HKND:=hD (zg4 op)
 have HFEW:=hD (zv1 op)
 have HMAY:=hD (fun kind n h0 h1 w=>may_any op kind n h0 h1 w)
 have HNAME:=hD (fun w hw=>hnm ▸ ze4 op w hw)
 have HW:=hD hw
 have HO:=hD HOPS
 obtain⟨nm,hnmx⟩:∃ nm,nameAt m=nm:=⟨_,rfl⟩
 rw [hnmx] at hne HNAME
 have hbx:Box ((w.alloc (.cells #[.int .i64 op,.int .i64 a,.int .i64 b,.int .i64 c,.int .i64 d] 65)).alloc (.cells #[.int .i64 0,.int .i64 0,.int .i64 0,.int .i64 0] 52)) w.heap.size 65 #[.int .i64 op,.int .i64 a,.int .i64 b,.int .i64 c,.int .i64 d]:=(Box.new w _ _).alloc _
 have hbk:Box ((w.alloc (.cells #[.int .i64 op,.int .i64 a,.int .i64 b,.int .i64 c,.int .i64 d] 65)).alloc (.cells #[.int .i64 0,.int .i64 0,.int .i64 0,.int .i64 0] 52)) (w.heap.size+1) 52 #[.int .i64 0,.int .i64 0,.int .i64 0,.int .i64 0]:=by
  have h:=Box.new (w.alloc (.cells #[.int .i64 op,.int .i64 a,.int .i64 b,.int .i64 c,.int .i64 d] 65)) 52 #[.int .i64 0,.int .i64 0,.int .i64 0,.int .i64 0]
  rw [show(w.alloc (.cells #[.int .i64 op,.int .i64 a,.int .i64 b,.int .i64 c,.int .i64 d] 65)).heap.size=w.heap.size+1 by simp] at h
  exact h
 have hbb:=za1 w (.cells #[.int .i64 op,.int .i64 a,.int .i64 b,.int .i64 c,.int .i64 d] 65) (.cells #[.int .i64 0,.int .i64 0,.int .i64 0,.int .i64 0] 52)
 have HBX:=hD hbx
 have HBK:=hD hbk
 have HBB:=hD hbb
 clear h hm hnm HOPS hw hnmx hbx hbk hbb
 have hspl:=zr15 (opsOf op) HFEW.out
 have hcs:∃ cs:List Value,(opsOf op).map (Value.int .i64)=cs∧cs.length=Nat.min n 4∧0+cs.length≤4∧(∀ u ∈ cs,u.oneCell'=true):=by
  refine⟨_,rfl,?_,?_,?_⟩
  ·have:=HFEW.out
   rw [List.length_map,hn]
   exact(Nat.min_eq_left (by omega)).symm
  ·have:=HFEW.out
   rw [List.length_map]
   omega
  ·intro u hu
   obtain⟨x,_,rfl⟩:=List.mem_map.1 hu
   rfl
 obtain⟨cs,hcs,hlen,hfit,hone⟩:=hcs
 rw [hcs] at hspl HO
 have hcel:∀ (j:Nat) (u:Value),cs[j]?=some u→(((w.alloc (.cells #[.int .i64 op,.int .i64 a,.int .i64 b,.int .i64 c,.int .i64 d] 65)).alloc (.cells #[.int .i64 0,.int .i64 0,.int .i64 0,.int .i64 0] 52)).alloc (.cells cs.toArray 3)).cell? ((⟨w.heap.size+1+1,0,none⟩:Addr).add j)=some u:=fun j u hu=>by
  have h:=Box.new ((w.alloc (.cells #[.int .i64 op,.int .i64 a,.int .i64 b,.int .i64 c,.int .i64 d] 65)).alloc (.cells #[.int .i64 0,.int .i64 0,.int .i64 0,.int .i64 0] 52)) 3 cs.toArray
  rw [show((w.alloc (.cells #[.int .i64 op,.int .i64 a,.int .i64 b,.int .i64 c,.int .i64 d] 65)).alloc (.cells #[.int .i64 0,.int .i64 0,.int .i64 0,.int .i64 0] 52)).heap.size=w.heap.size+1+1 by simp] at h
  rw [add_plain,Nat.zero_add,h.cell j]
  simpa using hu
 have HCEL:=hD hcel
 have HLEN:=hD hlen
 have HFIT:=hD hfit
 have HONE:=hD hone
 have HSPL:=hD hspl
 have HN:=hD hn
 have HN0:=hD hn0
 clear hcel hlen hfit hone hspl hcs hn hn0
 unfold insV
 go_enter Tryz.func88,Tryz.ntmps88
 go_wp2_with (refine(HNAME.out _ (HW.out.below (za w _) HW.out.lt)).mono ?_;rintro e w' ⟨rfl,rfl⟩)
 clear hne
 go_region_law
  (first
   | (go_simp;go_at_call 79;(with_reducible refine(HO.out _).mono ?_);rintro e w5 ⟨rfl,rfl⟩)
   | (refine step_copy_splice rfl (.tmp 10) (.tmp 13) 73 73 rfl 3 Tryz.underlying73 (by kernel_rfl) _ _ 4 4 n n rfl rfl (w.heap.size+1) 0 [.int .i64 0,.int .i64 0,.int .i64 0,.int .i64 0] 52 (HBK.out.alloc (.cells cs.toArray 3)) cs HLEN.out (fun _=>⟨rfl,_,rfl,HCEL.out⟩) HFIT.out HONE.out (w.heap.size+1) _ (Below.refl _ _) (Nat.le_refl _) ?_;intro w4 hg4 hb4))
 have hK:KindsAt w.heap.size op a b c d w w4:=by
  have hb5:Below (w.heap.size+1) ((w.alloc (.cells #[.int .i64 op,.int .i64 a,.int .i64 b,.int .i64 c,.int .i64 d] 65)).alloc (.cells #[.int .i64 0,.int .i64 0,.int .i64 0,.int .i64 0] 52)) w4:=((Below.refl (w.heap.size+1) ((w.alloc (.cells #[.int .i64 op,.int .i64 a,.int .i64 b,.int .i64 c,.int .i64 d] 65)).alloc (.cells #[.int .i64 0,.int .i64 0,.int .i64 0,.int .i64 0] 52))).alloc (by simp) (.cells cs.toArray 3)).trans ⟨hb4.os,hb4.tape,hb4.output,hb4.size,hb4.block⟩
  refine⟨HBX.out.below hb5 (by omega),?_,HBB.out.trans (hb5.mono (show w.heap.size≤w.heap.size+1 by omega))⟩
  have h:=hg4.out
  rw [HSPL.out] at h
  exact h
 have HK:=hD hK
 have b0:=hK.ins.cell 0
 have b1:=hK.ins.cell 1
 have b2:=hK.ins.cell 2
 have b3:=hK.ins.cell 3
 have b4:=hK.ins.cell 4
 clear hg4 hb4 hK
 go_wp2
 clear b0 b1 b2 b3 b4
 go_loopw [17] (fun i wr=>∃ k:Nat,k≤4∧i=.int .i64 k∧KindsAt w.heap.size op a b c d w wr∧∀ j,j<k→mayB op ((opsOf op).getD j 0) ([a,b,c,d].getD j 0)=true) (fun i _=>4 - (intOf i).toNat)
 case atStart=>exact⟨0,by omega,rfl,HK.out,fun j hj=>absurd hj (by omega)⟩
 case round=>
  obtain⟨k,hk,rfl,hkk,hall⟩:=hrel
  have HA:=hD hall
  clear hall
  by_cases hlt:k<4
  ·have hix:=zk3 (P:=Tryz.prog) wr 52 3 4 #[.int .i64 a,.int .i64 b,.int .i64 c,.int .i64 d] .i64 k (.int .i64 ([a,b,c,d].getD k 0)) Tryz.underlying52 (fun _=>by kernel_rfl) (fun _=>by kernel_rfl) hlt (by
    match k,hlt with
    | 0,_=>rfl
    | 1,_=>rfl
    | 2,_=>rfl
    | 3,_=>rfl)
   have hc0:wr.cell? ⟨w.heap.size,0,none⟩=some (.int .i64 op):=hkk.ins.cell 0
   have hck:=hkk.cell k hlt
   have hkd:=HKND.out k
   have hm:=HMAY.out _ ([a,b,c,d].getD k 0) hkd.1 hkd.2
   have HKK:=hD hkk
   have HN2:=hD (HNOT.out k hlt)
   clear hkk hkd
   obtain⟨x,hx⟩:∃ x,[a,b,c,d].getD k 0=x:=⟨_,rfl⟩
   obtain⟨y,hy⟩:∃ y,(opsOf op).getD k 0=y:=⟨_,rfl⟩
   rw [hx] at hix
   rw [hy] at hck
   rw [hx,hy] at hm HN2
   have HX:=hD hx
   have HY:=hD hy
   clear hx hy
   cases hB:mayB op y x
   ·rw [hB] at hm
    have HM:=hD hm
    have HN3:=hD (HN2.out hB)
    clear hm hB HN2
    go_wp2
    go_quiet ((go_at_call 118;exact Calls.quiet_of_same ((HM.out _).mono fun _ _ h=>⟨h.1,h.2.symm⟩)))
    go_wp2
    go_ret
    exact⟨ret_b HN3.out.symm,(HKK.out.drewN _).below⟩
   ·rw [hB] at hm
    have HM:=hD hm
    have HBF:=hD hB
    clear hm hB
    go_wp2
    go_quiet ((go_at_call 118;exact Calls.quiet_of_same ((HM.out _).mono fun _ _ h=>⟨h.1,h.2.symm⟩)))
    go_wp2
    go_roundw
    case rel=>exact⟨k+1,by omega,by go_num,HKK.out.drewN _,fun j hj=>by
     by_cases e:j=k
     ·subst e
      rw [HX.out,HY.out]
      exact HBF.out
     ·exact HA.out j (by omega)⟩
    case measure=>simp [intOf];omega
  ·obtain rfl:k=4:=by omega
   have HKK:=hD hkk
   have hr:=HALL.out HA.out
   have HR:=hD hr
   clear hkk hr
   go_wp2
   go_ret
   exact⟨ret_b HR.out.symm,HKK.out.below⟩
def CellsAt (w:World) (v:Value) (n:Nat) (cs:List Value):Prop:=
 (n=0∧cs=[]∧∃ A c,v=.slice A 0 c) ∨
  ∃ b off c,v=.slice (some ⟨b,off,none⟩) n c∧b<w.heap.size∧∀ k u,cs[k]?=some u→w.cell? ⟨b,off+k,none⟩=some u
theorem CellsAt.below {w w':World} {v:Value} {n:Nat} {cs:List Value} (h:CellsAt w v n cs) (hb:Below w.heap.size w w'):CellsAt w' v n cs:=by
 rcases h with h | ⟨b,off,c,rfl,hl,hc⟩
 ·exact .inl h
 ·exact .inr ⟨b,off,c,rfl,Nat.lt_of_lt_of_le hl hb.size,fun k u hk=>(hb.cell (p:=⟨b,off+k,none⟩) hl).trans (hc k u hk)⟩
theorem CellsAt.form {w:World} {v:Value} {n:Nat} {cs:List Value} (h:CellsAt w v n cs):∃ A c,v=.slice A n c:=by
 rcases h with⟨rfl,_,A,c,rfl⟩ | ⟨b,off,c,rfl,_⟩
 ·exact⟨A,c,rfl⟩
 ·exact⟨_,c,rfl⟩
theorem CellsAt.at_ {w:World} {A:Option Addr} {n m c:Nat} {cs:List Value} (h:CellsAt w (.slice A m c) n cs) (hn:0<n) :
  m=n∧∃ b off,A=some ⟨b,off,none⟩∧b<w.heap.size∧∀ k u,cs[k]?=some u→w.cell? ⟨b,off+k,none⟩=some u:=by
 rcases h with⟨rfl,_,_⟩ | ⟨b,off,c',hv,hl,hc⟩
 ·omega
 ·injection hv with h1 h2 h3
  exact⟨h2,b,off,h1,hl,hc⟩
theorem CellsAt.of_own {w:World} {base:Nat} {e:TypeId} {size n:Nat} {v:Value} {xs:List Value} (h:w.ownsRow base e size v n xs) (hs:0<size):CellsAt w v n xs:=by
 rcases h.2 with⟨h0,h1⟩ | ⟨g,cap,cur,he,hb,hg,h2,h3,hrest⟩
 ·subst h0
  subst h1
  have hx:xs=[]:=by
   have:=h.1
   simpa using this
  exact .inl ⟨rfl,hx,_,_,rfl⟩
 ·refine .inr ⟨g,0,cap,he,(Array.getElem?_eq_some_iff.1 hg).1,fun k u hk=>?_⟩
  subst he
  have hkl:=(List.getElem?_eq_some_iff.1 hk).1
  rw [Nat.zero_add,h.cellAt k (by have:=h.1;omega)]
  exact hk
def funC (f:ByteArray × Int):List Value:=[.string f.1,.int .i64 f.2]
def predC (p:ByteArray × Int × Int):List Value:=[.string p.1,.int .i64 p.2.1,.int .i64 p.2.2]
def insC (i:Ins):List Value:=[.int .i64 i.1,.int .i64 i.2.1,.int .i64 i.2.2.1,.int .i64 i.2.2.2.1,.int .i64 i.2.2.2.2]
theorem zb3 {α:Type} (f:α→List Value) (m:Nat) (hf:∀ a,(f a).length=m):∀ (l:List α) (k:Nat) (a:α),l[k]?=some a→∀ j,j<m→(l.flatMap f)[k * m+j]?=(f a)[j]?
 | [],_,_,h,_,_=>by simp at h
 | x :: l,0,a,h,j,hj=>by
  obtain rfl:x=a:=by simpa using h
  rw [List.flatMap_cons,Nat.zero_mul,Nat.zero_add,List.getElem?_append_left (by rw [hf];exact hj)]
 | x :: l,k+1,a,h,j,hj=>by
  have h':l[k]?=some a:=by simpa using h
  rw [List.flatMap_cons,List.getElem?_append_right (by rw [hf,Nat.succ_mul];omega),hf,show(k+1) * m+j - m=k * m+j by rw [Nat.succ_mul];omega]
  exact zb3 f m hf l k a h' j hj
def AtomsAt (w:World) (v:Value) (l:List ByteArray):Prop:=CellsAt w v l.length (l.map Value.string)
def FunsAt (w:World) (v:Value) (l:List (ByteArray × Int)):Prop:=CellsAt w v l.length (l.flatMap funC)
def PredsAt (w:World) (v:Value) (l:List (ByteArray × Int × Int)):Prop:=CellsAt w v l.length (l.flatMap predC)
def CodeAt (w:World) (v:Value) (l:List Ins):Prop:=CellsAt w v l.length (l.flatMap insC)
structure ObAt (w:World) (va vf vp vc:Value) (o:Ob):Prop where
 atoms:AtomsAt w va o.atoms
 funs:FunsAt w vf o.funs
 preds:PredsAt w vp o.preds
 code:CodeAt w vc o.code
theorem ObAt.below {w w':World} {va vf vp vc:Value} {o:Ob} (h:ObAt w va vf vp vc o) (hb:Below w.heap.size w w'):ObAt w' va vf vp vc o:=
 ⟨CellsAt.below h.atoms hb,CellsAt.below h.funs hb,CellsAt.below h.preds hb,CellsAt.below h.code hb⟩
theorem zf3 {w:World} {A:Option Addr} {c:Nat} {l:List ByteArray} (h:AtomsAt w (.slice A l.length c) l) (k:Nat) (hk:k<l.length) :
  ∃ b off,A=some ⟨b,off,none⟩∧b<w.heap.size∧w.cell? ⟨b,off+k,none⟩=some (.string l[k]):=by
 obtain⟨_,b,off,hA,hl,hc⟩:=h.at_ (by omega)
 exact⟨b,off,hA,hl,hc k _ (by simp [hk])⟩
theorem zy1 {w:World} {A:Option Addr} {c:Nat} {l:List (ByteArray × Int)} (h:FunsAt w (.slice A l.length c) l) (k:Nat) (hk:k<l.length) :
  ∃ b off,A=some ⟨b,off,none⟩∧b<w.heap.size∧w.cell? ⟨b,off+k * 2,none⟩=some (.string l[k].1)∧w.cell? ⟨b,off+k * 2+1,none⟩=some (.int .i64 l[k].2):=by
 obtain⟨_,b,off,hA,hl,hc⟩:=h.at_ (by omega)
 have hf:=zb3 funC 2 (fun _=>rfl) l k l[k] (by simp [hk])
 exact⟨b,off,hA,hl,hc _ _ (hf 0 (by omega)),hc _ _ (hf 1 (by omega))⟩
theorem zd1 {w:World} {A:Option Addr} {c:Nat} {l:List (ByteArray × Int × Int)} (h:PredsAt w (.slice A l.length c) l) (k:Nat) (hk:k<l.length) :
  ∃ b off,A=some ⟨b,off,none⟩∧b<w.heap.size∧w.cell? ⟨b,off+k * 3,none⟩=some (.string l[k].1)∧w.cell? ⟨b,off+k * 3+1,none⟩=some (.int .i64 l[k].2.1)∧w.cell? ⟨b,off+k * 3+2,none⟩=some (.int .i64 l[k].2.2):=by
 obtain⟨_,b,off,hA,hl,hc⟩:=h.at_ (by omega)
 have hf:=zb3 predC 3 (fun _=>rfl) l k l[k] (by simp [hk])
 exact⟨b,off,hA,hl,hc _ _ (hf 0 (by omega)),hc _ _ (hf 1 (by omega)),hc _ _ (hf 2 (by omega))⟩
theorem zm3 {w:World} {A:Option Addr} {c:Nat} {l:List Ins} (h:CodeAt w (.slice A l.length c) l) (k:Nat) (hk:k<l.length) :
  ∃ b off,A=some ⟨b,off,none⟩∧b<w.heap.size∧w.cell? ⟨b,off+k * 5,none⟩=some (.int .i64 l[k].1)∧w.cell? ⟨b,off+k * 5+1,none⟩=some (.int .i64 l[k].2.1)∧w.cell? ⟨b,off+k * 5+2,none⟩=some (.int .i64 l[k].2.2.1) ∧
   w.cell? ⟨b,off+k * 5+3,none⟩=some (.int .i64 l[k].2.2.2.1)∧w.cell? ⟨b,off+k * 5+4,none⟩=some (.int .i64 l[k].2.2.2.2):=by
 obtain⟨_,b,off,hA,hl,hc⟩:=h.at_ (by omega)
 have hf:=zb3 insC 5 (fun _=>rfl) l k l[k] (by simp [hk])
 exact⟨b,off,hA,hl,hc _ _ (hf 0 (by omega)),hc _ _ (hf 1 (by omega)),hc _ _ (hf 2 (by omega)),hc _ _ (hf 3 (by omega)),hc _ _ (hf 4 (by omega))⟩
theorem full_any (a f p c:Nat) (w:World) :
  Calls Tryz.prog 43 #[.int .i64 a,.int .i64 f,.int .i64 p,.int .i64 c] w fun e w'=>e=.returned (.bool (bigB a f p c))∧w=w':=by
 have hb:bigB a f p c=(decide ((256:Int)<a) || decide ((256:Int)<f) || decide ((64:Int)<p) || decide ((1024:Int)<c)):=by
  unfold bigB
  rw [Bool.eq_iff_iff]
  simp
  omega
 rw [hb]
 clear hb
 by_cases h1:(256:Int)<(a:Int)
 ·go_enter Tryz.func43,Tryz.ntmps43
  go_wp2
  go_ret
  exact⟨ret_b (by simp [h1]),rfl⟩
 ·by_cases h2:(256:Int)<(f:Int)
  ·go_enter Tryz.func43,Tryz.ntmps43
   go_wp2
   go_ret
   exact⟨ret_b (by simp [h2]),rfl⟩
  ·by_cases h3:(64:Int)<(p:Int)
   ·go_enter Tryz.func43,Tryz.ntmps43
    go_wp2
    go_ret
    exact⟨ret_b (by simp [h3]),rfl⟩
   ·go_enter Tryz.func43,Tryz.ntmps43
    go_wp2
    go_ret
    exact⟨ret_b (by simp;omega),rfl⟩
theorem zt2 (n m:Int) (w:World) :
  Calls Tryz.prog 86 #[.int .i64 n,.int .i64 m] w fun e w'=>e=.returned (.bool (decide (0≤n∧n<m)))∧w=w':=by
 by_cases h:0≤n
 ·go_enter Tryz.func86,Tryz.ntmps86
  go_wp2
  go_ret
  exact⟨ret_b (by simp [h]),rfl⟩
 ·go_enter Tryz.func86,Tryz.ntmps86
  go_wp2
  go_ret
  exact⟨ret_b (by simp;omega),rfl⟩
theorem ze6 {α:Type} (p:α→Bool) (l:List α) (k:Nat) (h:k<l.length):(l.take (k+1)).all p=((l.take k).all p && p l[k]):=by
 rw [List.take_succ_eq_append_getElem h,List.all_append]
 simp
theorem zg7 {α:Type} (p:α→Bool) (l:List α) (k:Nat) (h:k<l.length) (hp:p l[k]=false):l.all p=false:=by
 have:¬ l.all p=true:=fun e=>by
  rw [List.all_eq_true] at e
  rw [e _ (List.getElem_mem h)] at hp
  cases hp
 simpa using this
set_option maxHeartbeats 1000000 in
theorem zt13 (l:List ByteArray) (hs:∀ s ∈ l,s.size≤maxLen) (hm:l.length≤1000000) (v:Value) (w:World) (hv:AtomsAt w v l) :
  Calls Tryz.prog 44 #[v] w fun e w'=>e=.returned (.bool (l.all nameOk))∧w=w':=by
 obtain⟨A,c,rfl⟩:=hv.form
 have HV:=hD hv
 have HS:=hD hs
 clear hv hs
 go_enter Tryz.func44,Tryz.ntmps44
 go_wp2
 go_loop [7] (fun i=>∃ k:Nat,k≤l.length∧i=.int .i64 k∧Hid ((l.take k).all nameOk=true)) (fun i=>l.length - (intOf i).toNat)
 case atStart=>exact⟨0,by omega,rfl,by simp [Hid]⟩
 case round=>
  obtain⟨k,hk,rfl,HA⟩:=hrel
  by_cases hlt:k<l.length
  ·obtain⟨b,off,rfl,hb,hc⟩:=zf3 HV.out k hlt
   have hsz:=HS.out _ (List.getElem_mem hlt)
   have HT:=hD (ze6 nameOk l k hlt)
   have HN:=hD (fun h=>zg7 nameOk l k hlt h)
   generalize l[k]=s at hc hsz HT HN
   cases hB:nameOk s
   ·have HN2:=hD (HN.out hB)
    have HC:=hD (fun w=>zb9 s hB w hsz)
    clear hsz
    go_wp2_with (go_at_call 85;refine(HC.out _).mono ?_;rintro e w' ⟨rfl,rfl⟩)
    go_ret
    exact⟨by rw [HN2.out];rfl,rfl⟩
   ·have HC:=hD (fun w=>zb9 s hB w hsz)
    have HB:=hD hB
    clear hsz hB
    go_wp2_with (go_at_call 85;refine(HC.out _).mono ?_;rintro e w' ⟨rfl,rfl⟩)
    go_round
    case rel=>exact⟨k+1,by omega,by go_num,by show _=_;rw [HT.out,HA.out,HB.out];rfl⟩
    case measure=>simp [intOf];omega
  ·obtain rfl:k=l.length:=by omega
   have HF:Hid (l.all nameOk=true):=by
    have:=HA.out
    rw [List.take_length] at this
    exact this
   go_wp2
   go_ret
   exact⟨by rw [HF.out];rfl,rfl⟩
set_option maxHeartbeats 2000000 in
theorem zf9 (least:Int) (l:List (ByteArray × Int)) (hs:∀ s ∈ l,s.1.size≤maxLen) (hm:l.length≤1000000) (v:Value) (w:World) (hv:FunsAt w v l) :
  Calls Tryz.prog 45 #[v,.int .i64 least] w fun e w'=>e=.returned (.bool (l.all (funOk least)))∧Below w.heap.size w w':=by
 obtain⟨A,c,rfl⟩:=CellsAt.form hv
 have HV:=hD hv
 have HS:=hD hs
 clear hv hs
 go_enter Tryz.func45,Tryz.ntmps45
 go_wp2
 go_loopw [9] (fun i wr=>∃ k:Nat,k≤l.length∧i=.int .i64 k∧Hid ((l.take k).all (funOk least)=true)∧Hid (Below w.heap.size w wr)) (fun i _=>l.length - (intOf i).toNat)
 case atStart=>exact⟨0,by omega,rfl,by simp [Hid],hD (Below.refl _ w)⟩
 case round=>
  obtain⟨k,hk,rfl,HA,HB⟩:=hrel
  by_cases hlt:k<l.length
  ·obtain⟨b,off,rfl,hb,hc0,hc1⟩:=zy1 HV.out k hlt
   have d0:=(HB.out.cell (p:=⟨b,off+k * 2,none⟩) hb).trans hc0
   have d1:=(HB.out.cell (p:=⟨b,off+k * 2+1,none⟩) hb).trans hc1
   have hsz:=HS.out _ (List.getElem_mem hlt)
   have HT:=hD (ze6 (funOk least) l k hlt)
   have HN:=hD (fun h=>zg7 (funOk least) l k hlt h)
   obtain⟨fo,hfo⟩:∃ fo,fo=funOk least l[k]:=⟨_,rfl⟩
   rw [← hfo] at HT HN
   unfold funOk at hfo
   have HE:=hD hfo
   clear hc0 hc1 hfo
   generalize l[k].1=s at d0 hsz HE
   generalize l[k].2=n at d1 HE
   have HBB:∀ o,Hid (Below w.heap.size w (wr.alloc o)):=fun o=>hD (HB.out.alloc HB.out.size o)
   cases hB:nameOk s
   ·have HN2:Hid (l.all (funOk least)=false):=hD (HN.out (by rw [HE.out,hB];rfl))
    have HC:=hD (fun w=>zb9 s hB w hsz)
    clear hsz hB
    go_wp2_with (go_at_call 85;refine(HC.out _).mono ?_;rintro e w' ⟨rfl,rfl⟩)
    go_ret
    exact⟨by rw [HN2.out];rfl,(HBB _).out⟩
   ·have HC:=hD (fun w=>zb9 s hB w hsz)
    have HB1:=hD hB
    clear hsz hB
    by_cases h1:n<least
    ·have HN2:Hid (l.all (funOk least)=false):=hD (HN.out (by rw [HE.out,HB1.out];simp;omega))
     go_wp2_with (go_at_call 85;refine(HC.out _).mono ?_;rintro e w' ⟨rfl,rfl⟩)
     go_ret
     exact⟨by rw [HN2.out];rfl,(HBB _).out⟩
    ·by_cases h2:8<n
     ·have HN2:Hid (l.all (funOk least)=false):=hD (HN.out (by rw [HE.out,HB1.out];simp;omega))
      go_wp2_with (go_at_call 85;refine(HC.out _).mono ?_;rintro e w' ⟨rfl,rfl⟩)
      go_ret
      exact⟨by rw [HN2.out];rfl,(HBB _).out⟩
     ·have HY:Hid (fo=true):=hD (by rw [HE.out,HB1.out];simp;omega)
      go_wp2_with (go_at_call 85;refine(HC.out _).mono ?_;rintro e w' ⟨rfl,rfl⟩)
      go_roundw
      case rel=>exact⟨k+1,by omega,by go_num,by show _=_;rw [HT.out,HA.out,HY.out];rfl,HBB _⟩
      case measure=>simp [intOf];omega
  ·obtain rfl:k=l.length:=by omega
   have HF:Hid (l.all (funOk least)=true):=by
    have:=HA.out
    rw [List.take_length] at this
    exact this
   go_wp2
   go_ret
   exact⟨by rw [HF.out];rfl,HB.out⟩
end Go.Proofs.YtlmbiafloiompaaGreatDoor
