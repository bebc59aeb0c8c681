/-
  5 texts in one (ObjFM ObjFX ObjW ObjWB ObjAE). Conditions: those of each theorem.
-/
import Derived.Test.YtlmbiafloiompaaGreatDoorJO05
import Derived.Test.YtlmbiafloiompaaGreatDoorJO04
import Derived.Test.YtlmbiafloiompaaGreatDoorJO37
import Derived.Test.YtlmbiafloiompaaGreatDoorJO06
import Derived.Test.YtlmbiafloiompaaGreatDoorJO30
import Derived.Test.YtlmbiafloiompaaGreatDoorJO32
set_option linter.unusedVariables false
set_option linter.unusedSimpArgs false
namespace Go.Proofs.YtlmbiafloiompaaGreatDoor
open Go
def mostOf (np n:Nat) (kind:Int):Nat:=
 if kind=1 then 32 else if kind=2 then 16 else if kind=3 then 3 else if kind=4 then 2 else if kind=5 then 8 else if kind=6 then 17 else if kind=7 then np else if kind=8 then n else if kind=9 then 16 else 1
def goodB (np n:Nat) (op kind x:Int):Prop:=mayB op kind x=true∧thereB 3 2 np n kind x=true
theorem ops_all (op:Int):(opsOf op).all (fun x=>decide (1≤x∧x≤9))=true:=by
 unfold opsOf
 repeat (first | (split <;> try decide) | decide)
theorem ops_kind8 (op:Int) (k:Nat) (hk:k<(opsOf op).length):1≤(opsOf op).getD k 0∧(opsOf op).getD k 0≤9:=by
 have h:=ops_all op
 rw [List.all_eq_true] at h
 rw [List.getD_eq_getElem?_getD,List.getElem?_eq_getElem hk]
 exact of_decide_eq_true (h _ (List.getElem_mem hk))
theorem zw19 {np n:Nat} {op kind:Int} {r:Nat} (hnp:np≤4) (hn:n≤30) (h1:1≤kind) (h9:kind≤9) (h5:kind≠5) (hr:r<mostOf np n kind):goodB np n op kind r:=by
 have hk:kind=1 ∨ kind=2 ∨ kind=3 ∨ kind=4 ∨ kind=6 ∨ kind=7 ∨ kind=8 ∨ kind=9:=by omega
 unfold goodB mayB thereB
 rcases hk with rfl | rfl | rfl | rfl | rfl | rfl | rfl | rfl <;> simp [mostOf] at hr <;> simp [lowOf,highOf] <;> omega
theorem good_five {np n:Nat} {op:Int} {r:Nat} (hr:r<mostOf np n 5):goodB np n op 5 (r+1):=by
 simp [mostOf] at hr
 unfold goodB mayB thereB
 simp [lowOf,highOf]
 omega
theorem good_none {np n:Nat}:goodB np n 26 8 65535:=by
 unfold goodB mayB thereB
 simp
theorem zx11 {op:Int} {k:Nat} (h:op=26) (hk:k<(opsOf op).length):(opsOf op).getD k 0=8:=by
 subst h
 have:opsOf 26=[8,8,8,8]:=rfl
 rw [this] at hk ⊢
 match k,hk with
 | 0,_=>rfl
 | 1,_=>rfl
 | 2,_=>rfl
 | 3,_=>rfl
theorem za11 {op:Int} {k:Nat} (h5:(opsOf op).getD k 0=5) (hk:k<(opsOf op).length):op≠26:=by
 intro h
 rw [zx11 h hk] at h5
 omega
structure Args (np n:Nat) (op:Int) (k:Nat) (l:List Int):Prop where
 good:∀ j:Nat,j<k→goodB np n op ((opsOf op).getD j 0) (l.getD j 0)
 rest:∀ j:Nat,k≤j→j<4→l.getD j 0=0
 len:l.length=4
theorem Args.zero (np n:Nat) (op:Int):Args np n op 0 [0,0,0,0]:=⟨fun j h=>absurd h (by omega),fun j _ h=>by
 match j,h with
 | 0,_=>rfl
 | 1,_=>rfl
 | 2,_=>rfl
 | 3,_=>rfl,rfl⟩
theorem zx12 {l:List Int} {k j:Nat} {x:Int} (hk:k<l.length):(l.set k x).getD j 0=if j=k then x else l.getD j 0:=by
 simp only [List.getD_eq_getElem?_getD,List.getElem?_set]
 by_cases h:j=k
 ·subst h
  simp [hk]
 ·rw [if_neg h,if_neg (fun e=>h e.symm)]
theorem Args.put {np n:Nat} {op:Int} {k:Nat} {l:List Int} (h:Args np n op k l) (hk:k<4) {x:Int} (hx:goodB np n op ((opsOf op).getD k 0) x):Args np n op (k+1) (l.set k x):=by
 have hl:=h.len
 refine⟨fun j hj=>?_,fun j hj h4=>?_,by rw [List.length_set];exact hl⟩
 ·rw [zx12 (by omega)]
  by_cases e:j=k
  ·subst e
   rw [if_pos rfl]
   exact hx
  ·rw [if_neg e]
   exact h.good j (by omega)
 ·rw [zx12 (by omega),if_neg (by omega)]
  exact h.rest j (by omega) h4
theorem Args.done {np n:Nat} {op:Int} {l:List Int} (hop:0≤op∧op≤26) (h:Args np n op (opsOf op).length l):insErr 3 2 np n (op,l.getD 0 0,l.getD 1 0,l.getD 2 0,l.getD 3 0)=0:=by
 have e:argOf (op,l.getD 0 0,l.getD 1 0,l.getD 2 0,l.getD 3 0)=l:=by
  have:=h.len
  match l,this with
  | [a,b,c,d],_=>rfl
 unfold insErr
 rw [e]
 show(if ¬ (0≤op∧op≤26) then(8:Int) else if rightB op l=false then 9 else if (List.range (opsOf op).length).all (fun k=>thereB 3 2 np n ((opsOf op).getD k 0) (l.getD k 0)) then 0 else 9)=0
 have hr:rightB op l=true:=by
  unfold rightB
  rw [Bool.and_eq_true,List.all_eq_true]
  refine⟨decide_eq_true hop,fun k hk=>?_⟩
  have hk4:=List.mem_range.1 hk
  by_cases hkl:k<(opsOf op).length
  ·exact(h.good k hkl).1
  ·have e0:(opsOf op).getD k 0=0:=by rw [List.getD_eq_getElem?_getD,List.getElem?_eq_none (by omega)];rfl
   rw [e0,h.rest k (by omega) hk4]
   unfold mayB lowOf highOf
   simp
 rw [if_neg (by omega),hr,if_neg (by simp),if_pos]
 rw [List.all_eq_true]
 exact fun k hk=>(h.good k (List.mem_range.1 hk)).2
def pname (j:Nat):ByteArray:=⟨#[112,UInt8.ofNat (97+j)]⟩
structure Preds (n:Nat) (lp:List (ByteArray × Int × Int)):Prop where
 len:lp.length≤4
 names:∀ (j:Nat) (h:j<lp.length),lp[j].1=pname j
 ar:∀ p ∈ lp,0≤p.2.1∧p.2.1≤3
 ents:∀ p ∈ lp,p.2.2=65535 ∨ (0≤p.2.2∧p.2.2<n)
 nd:((lp.map (·.2.2)).filter (fun e=>decide (e≠65535))).Nodup
theorem Preds.nil (n:Nat):Preds n []:=⟨by simp,fun j h=>by simp at h,by simp,by simp,by simp⟩
def EntOk (n:Nat) (lp:List (ByteArray × Int × Int)) (k:Nat) (e:Int):Prop:=e=65535 ∨ (0≤e∧e<n∧∀ (j:Nat) (h:j<lp.length),j<k→lp[j].2.2≠e)
theorem EntOk.zero {n:Nat} {lp:List (ByteArray × Int × Int)} {e:Int} (h:e=65535 ∨ (0≤e∧e<n)):EntOk n lp 0 e:=h.imp id fun h=>⟨h.1,h.2,fun j _ hj=>absurd hj (by omega)⟩
theorem EntOk.step {n:Nat} {lp:List (ByteArray × Int × Int)} {k:Nat} {e:Int} (h:EntOk n lp k e) (hk:k<lp.length) (hne:lp[k].2.2≠e):EntOk n lp (k+1) e:=
 h.imp id fun h=>⟨h.1,h.2.1,fun j hj hjk=>by
  by_cases e2:j=k
  ·subst e2
   exact hne
  ·exact h.2.2 j hj (by omega)⟩
theorem EntOk.none (n:Nat) (lp:List (ByteArray × Int × Int)) (k:Nat):EntOk n lp k 65535:=.inl rfl
theorem Preds.snoc {n:Nat} {lp:List (ByteArray × Int × Int)} (h:Preds n lp) (hl:lp.length<4) {a e:Int} (ha:0≤a∧a≤3) (he:EntOk n lp lp.length e):Preds n (lp ++ [(pname lp.length,a,e)]):=by
 refine⟨by simp;omega,fun j hj=>?_,fun p hp=>?_,fun p hp=>?_,?_⟩
 ·by_cases hjl:j<lp.length
  ·rw [List.getElem_append_left hjl]
   exact h.names j hjl
  ·have:j=lp.length:=by simp at hj;omega
   subst this
   simp
 ·rcases List.mem_append.1 hp with hp | hp
  ·exact h.ar p hp
  ·obtain rfl:=List.mem_singleton.1 hp
   exact ha
 ·rcases List.mem_append.1 hp with hp | hp
  ·exact h.ents p hp
  ·obtain rfl:=List.mem_singleton.1 hp
   exact he.imp id fun h=>⟨h.1,h.2.1⟩
 ·rw [List.map_append,List.filter_append,List.nodup_append]
  refine⟨h.nd,?_,?_⟩
  ·by_cases h6:e=65535 <;> simp [h6]
  ·intro x hx y hy hxy
   subst hxy
   have hx2:=(List.mem_filter.1 hx).1
   have hy2:=List.mem_filter.1 hy
   have hxe:x=e:=by simpa using hy2.1
   have hx6:x≠65535:=by simpa using hy2.2
   obtain⟨p,hp,hpe⟩:=List.mem_map.1 hx2
   obtain⟨j,hj,rfl⟩:=List.mem_iff_getElem.1 hp
   rcases he with he | he
   ·exact hx6 (hxe.trans he)
   ·exact he.2.2 j hj hj (hpe.trans hxe)
theorem zn9 {a f p c:Nat}:∀ {l:List Ins},(∀ i ∈ l,insErr a f p c i=0)→codeErr a f p c l=0
 | [],_=>rfl
 | i :: l,h=>by
  rw [codeErr,if_pos (h i (by simp))]
  exact zn9 (fun j hj=>h j (by simp [hj]))
def fixOb (lp:List (ByteArray × Int × Int)) (lc:List Ins):Ob:=⟨[⟨#[97]⟩,⟨#[98]⟩,⟨#[110,105,108]⟩],[(⟨#[102]⟩,1),(⟨#[103]⟩,2)],lp,lc⟩
theorem pname_ok (j:Nat) (h:j<4):nameOk (pname j)=true:=by
 match j,h with
 | 0,_=>decide +kernel
 | 1,_=>decide +kernel
 | 2,_=>decide +kernel
 | 3,_=>decide +kernel
theorem pname_inj {i j:Nat} (hi:i<4) (hj:j<4) (h:pname i=pname j):i=j:=by
 have h2:=congrArg (fun b:ByteArray=>(b.data[1]?).map UInt8.toNat) h
 simp [pname] at h2
 omega
theorem fix_check {lp:List (ByteArray × Int × Int)} {lc:List Ins} (hp:Preds lc.length lp) (hn:lc.length≤30) (hc:∀ i ∈ lc,insErr 3 2 lp.length lc.length i=0):checkOf (fixOb lp lc)=0:=by
 have hl:=hp.len
 unfold checkOf fixOb
 have h1:bigB 3 2 lp.length lc.length=false:=by unfold bigB;simp;omega
 have h2:namesOk ⟨[⟨#[97]⟩,⟨#[98]⟩,⟨#[110,105,108]⟩],[(⟨#[102]⟩,1),(⟨#[103]⟩,2)],lp,lc⟩=true:=by
  unfold namesOk
  have a1:([⟨#[97]⟩,⟨#[98]⟩,⟨#[110,105,108]⟩]:List ByteArray).all nameOk=true:=by decide +kernel
  have a2:([(⟨#[102]⟩,1),(⟨#[103]⟩,2)]:List (ByteArray × Int)).all (funOk 1)=true:=by decide +kernel
  have a3:(lp.map called).all (funOk 0)=true:=by
   rw [List.all_eq_true]
   intro x hx
   obtain⟨p,hpm,rfl⟩:=List.mem_map.1 hx
   obtain⟨j,hj,rfl⟩:=List.mem_iff_getElem.1 hpm
   have:=hp.ar _ hpm
   unfold funOk called
   rw [hp.names j hj,pname_ok j (by omega)]
   simp
   omega
  rw [a1,a2,a3]
  rfl
 have h3:dupB ⟨[⟨#[97]⟩,⟨#[98]⟩,⟨#[110,105,108]⟩],[(⟨#[102]⟩,1),(⟨#[103]⟩,2)],lp,lc⟩=false:=by
  unfold dupB
  have a1:twiceB ([⟨#[97]⟩,⟨#[98]⟩,⟨#[110,105,108]⟩]:List ByteArray)=false:=by decide +kernel
  have a2:twiceB ([(⟨#[102]⟩,1),(⟨#[103]⟩,2)]:List (ByteArray × Int))=false:=by decide +kernel
  have a3:twiceB (lp.map called)=false:=by
   unfold twiceB
   rw [decide_eq_true,Bool.not_true]
   rw [List.nodup_iff_pairwise_ne,List.pairwise_iff_getElem]
   intro i j hi hj hij e
   rw [List.length_map] at hi hj
   rw [List.getElem_map,List.getElem_map] at e
   have e2:=congrArg Prod.fst e
   simp only [called] at e2
   rw [hp.names i hi,hp.names j hj] at e2
   have:=pname_inj (by omega) (by omega) e2
   omega
  show(twiceB _ || twiceB _ || twiceB _)=false
  rw [a1,a2,a3]
  rfl
 have h4:entsOk lc.length (lp.map (·.2.2))=true:=by
  unfold entsOk
  rw [Bool.and_eq_true]
  refine⟨?_,decide_eq_true hp.nd⟩
  rw [List.all_eq_true]
  intro x hx
  obtain⟨p,hpm,rfl⟩:=List.mem_map.1 hx
  unfold entryOk
  exact decide_eq_true (hp.ents p hpm)
 show(if bigB 3 2 lp.length lc.length=true then(2:Int) else if namesOk _=false then 7 else if dupB _=true then 11 else if entsOk lc.length (lp.map (·.2.2))=false then 7 else codeErr 3 2 lp.length lc.length lc)=0
 rw [h1,if_neg (by simp),h2,if_neg (by simp),h3,if_neg (by simp),h4,if_neg (by simp)]
 exact zn9 hc
end Go.Proofs.YtlmbiafloiompaaGreatDoor

namespace Go.Proofs.YtlmbiafloiompaaGreatDoor
open Go Go.RowKit Go.WideShapes Go.ChangeShapes
theorem za5 {P:Program} {ops:Array Oper} {rest:List Oper} {o:Oper} {a:Act} {w:World} {Q:Exit→Act→World→Prop} {t:TypeId} {len:Nat} {parts:Array (Nat × Value)} {v':Value} {w':World}
  (hr:(Instr.buildSlice t len parts).run P w=.ok v' w') (hgd:o.guard=none) (ps:Array (Nat × Operand)) (ho:o.op=.buildSlice t len ps) (hp:(ps.map fun(i,x)=>(i,a.eval x))=parts)
  (h:wpList P ops Q rest (a.put o.dst v') w'):wpList P ops Q (o :: rest) a w:=by
 refine wpList_plain hgd fun K hK=>?_
 subst hp
 unfold Oper.wp execOp
 simp only [ho,Sem.run_bind,Sem.run_pure,Result.andThen_ok,hr]
 exact hK _ _ h
theorem zc16 (n:Int) (w:World):(Instr.build 54 #[(0,.int .i64 n)]).run Tryz.prog w=.ok (.agg #[.int .i64 n,.int .i64 0,.int .i64 0,.int .i64 0,.int .i64 0]) w:=run_build w _ _ _ (by kernel_rfl)
def letterCells:Array Value:=#[.string ⟨#[97]⟩,.string ⟨#[98]⟩,.string ⟨#[99]⟩,.string ⟨#[100]⟩]
def atomCells:Array Value:=#[.string ⟨#[97]⟩,.string ⟨#[98]⟩,.string ⟨#[110,105,108]⟩]
def funCells:Array Value:=#[.string ⟨#[102]⟩,.int .i64 1,.string ⟨#[103]⟩,.int .i64 2]
def mostCells (np n:Nat):Array Value:=#[.int .i64 1,.int .i64 32,.int .i64 16,.int .i64 3,.int .i64 2,.int .i64 8,.int .i64 17,.int .i64 (np:Nat),.int .i64 (n:Nat),.int .i64 16]
theorem za21 (np n:Nat) (w:World):(Instr.buildSlice 73 10 #[(0,.int .i64 1),(1,.int .i64 32),(2,.int .i64 16),(3,.int .i64 3),(4,.int .i64 2),(5,.int .i64 8),(6,.int .i64 17),(7,.int .i64 (np:Nat)),(8,.int .i64 (n:Nat)),(9,.int .i64 16)]).run Tryz.prog w=.ok (.slice (some ⟨w.heap.size,0,none⟩) 10 10) (w.alloc (.cells (mostCells np n) 3)):=by kernel_rfl
theorem most_at (np n:Nat) (kind:Nat) (h1:1≤kind) (h:kind≤9):(mostCells np n)[kind]?=some (.int .i64 (mostOf np n (kind:Int):Nat)):=by
 match kind,h1,h with
 | 1,_,_=>rfl
 | 2,_,_=>rfl
 | 3,_,_=>rfl
 | 4,_,_=>rfl
 | 5,_,_=>rfl
 | 6,_,_=>rfl
 | 7,_,_=>rfl
 | 8,_,_=>rfl
 | 9,_,_=>rfl
structure Fx (w W:World) (g3 g4 ga gf:Nat) (us:Array Value) (vp vc:Value) (lp:List (ByteArray × Int × Int)) (lc:List Ins):Prop where
 b1:Box W w.heap.size 27 us
 b2:Box W (w.heap.size+1) 27 #[.slice none 0 0,.slice none 0 0,.slice none 0 0,.slice none 0 0]
 b3:Box W g3 9 letterCells
 b4:Box W g4 27 #[.slice (some ⟨ga,0,none⟩) 3 3,.slice (some ⟨gf,0,none⟩) 2 2,vp,vc]
 ba:Box W ga 9 atomCells
 bf:Box W gf 60 funCells
 rp:W.ownsRow w.heap.size 63 3 vp lp.length (lp.flatMap predC)
 rc:W.ownsRow w.heap.size 54 5 vc lc.length (lc.flatMap insC)
 below:Below w.heap.size w W
 lt:w.heap.size+1<g4∧w.heap.size≤ga∧w.heap.size≤gf
section
variable {w wr w' w6:World} {g3 g4 ga gf:Nat} {us:Array Value} {vp vc v6:Value} {lp:List (ByteArray × Int × Int)} {lc:List Ins}
theorem Fx.up (h:Fx w wr g3 g4 ga gf us vp vc lp lc) (hb:Below wr.heap.size wr w'):Fx w w' g3 g4 ga gf us vp vc lp lc:=
 ⟨h.b1.below hb h.b1.lt,h.b2.below hb h.b2.lt,h.b3.below hb h.b3.lt,h.b4.below hb h.b4.lt,h.ba.below hb h.ba.lt,h.bf.below hb h.bf.lt,own_fr (S:=fun _=>False) h.rp (Fr.of_below hb) (fun _ _ x=>x),own_fr (S:=fun _=>False) h.rc (Fr.of_below hb) (fun _ _ x=>x),h.below.trans (hb.mono h.below.size),h.lt⟩
theorem Fx.putp {s:ByteArray} {n m:Int} (h:Fx w wr g3 g4 ga gf us vp vc lp lc) (ha:App wr w6 w.heap.size 63 3 vp v6 (lp.length+1) (lp.flatMap predC ++ [.string s,.int .i64 n,.int .i64 m])) :
  Fx w (w6.setCell ⟨g4,2,none⟩ v6) g3 g4 ga gf us v6 vc (lp ++ [(s,n,m)]) lc∧w6.cell? ⟨g4,2,none⟩=some vp∧w6.frozen? ⟨g4,2,none⟩=false:=by
 have hb4:=h.b4.fr ha.fr (fun e=>zb h.rp h.b4 (by decide) _ e rfl)
 have f:=fun {g:Nat} {t:TypeId} {cs:Array Value} (hb:Box wr g t cs) (hne:63≠t)=>hb.fr ha.fr (fun e=>zb h.rp hb hne _ e rfl)
 have n34:g3≠g4:=h.b3.ne_ h.b4 (by decide)
 have na4:ga≠g4:=h.ba.ne_ h.b4 (by decide)
 have nf4:gf≠g4:=h.bf.ne_ h.b4 (by decide)
 have hlt:=h.lt
 refine⟨⟨(f h.b1 (by decide)).far (by show w.heap.size≠g4;omega) _,(f h.b2 (by decide)).far (by show w.heap.size+1≠g4;omega) _,(f h.b3 (by decide)).far n34 _,?_,(f h.ba (by decide)).far na4 _,(f h.bf (by decide)).far nf4 _,(by have h2:=zd ha.own (p:=⟨g4,2,none⟩) (fun k hk=>zb ha.own hb4 (by decide) k hk) v6;rw [List.length_append,List.flatMap_append];simpa [predC,insC] using h2),zd (own_fr h.rc ha.fr (fun k hk e=>zc h.rc h.rp (by decide) k hk e)) (p:=⟨g4,2,none⟩) (fun k hk=>zb (own_fr h.rc ha.fr (fun k hk e=>zc h.rc h.rp (by decide) k hk e)) hb4 (by decide) k hk) v6,(h.below.trans (ha.fr.below h.below.size (fun k hk=>(own_ge h.rp hk).1))).setCell (p:=⟨g4,2,none⟩) (by show w.heap.size≤g4;omega) _,h.lt⟩,hb4.cell 2,hb4.frozen 2⟩
 have:=hb4.set_ 2 v6
 simpa using this
theorem Fx.putc {i0 i1 i2 i3 i4:Int} (h:Fx w wr g3 g4 ga gf us vp vc lp lc) (ha:App wr w6 w.heap.size 54 5 vc v6 (lc.length+1) (lc.flatMap insC ++ [.int .i64 i0,.int .i64 i1,.int .i64 i2,.int .i64 i3,.int .i64 i4])) :
  Fx w (w6.setCell ⟨g4,3,none⟩ v6) g3 g4 ga gf us vp v6 lp (lc ++ [(i0,i1,i2,i3,i4)])∧w6.cell? ⟨g4,3,none⟩=some vc∧w6.frozen? ⟨g4,3,none⟩=false:=by
 have hb4:=h.b4.fr ha.fr (fun e=>zb h.rc h.b4 (by decide) _ e rfl)
 have f:=fun {g:Nat} {t:TypeId} {cs:Array Value} (hb:Box wr g t cs) (hne:54≠t)=>hb.fr ha.fr (fun e=>zb h.rc hb hne _ e rfl)
 have n34:g3≠g4:=h.b3.ne_ h.b4 (by decide)
 have na4:ga≠g4:=h.ba.ne_ h.b4 (by decide)
 have nf4:gf≠g4:=h.bf.ne_ h.b4 (by decide)
 have hlt:=h.lt
 refine⟨⟨(f h.b1 (by decide)).far (by show w.heap.size≠g4;omega) _,(f h.b2 (by decide)).far (by show w.heap.size+1≠g4;omega) _,(f h.b3 (by decide)).far n34 _,?_,(f h.ba (by decide)).far na4 _,(f h.bf (by decide)).far nf4 _,zd (own_fr h.rp ha.fr (fun k hk e=>zc h.rp h.rc (by decide) k hk e)) (p:=⟨g4,3,none⟩) (fun k hk=>zb (own_fr h.rp ha.fr (fun k hk e=>zc h.rp h.rc (by decide) k hk e)) hb4 (by decide) k hk) v6,(by have h2:=zd ha.own (p:=⟨g4,3,none⟩) (fun k hk=>zb ha.own hb4 (by decide) k hk) v6;rw [List.length_append,List.flatMap_append];simpa [predC,insC] using h2),(h.below.trans (ha.fr.below h.below.size (fun k hk=>(own_ge h.rc hk).1))).setCell (p:=⟨g4,3,none⟩) (by show w.heap.size≤g4;omega) _,h.lt⟩,hb4.cell 3,hb4.frozen 3⟩
 have:=hb4.set_ 3 v6
 simpa using this
end
theorem ze8:∀ (l:List Ins) (i:Nat) (x:Ins),i<l.length→((((((l.flatMap insC).set (i * 5) (.int .i64 x.1)).set (i * 5+1) (.int .i64 x.2.1)).set (i * 5+2) (.int .i64 x.2.2.1)).set (i * 5+3) (.int .i64 x.2.2.2.1)).set (i * 5+4) (.int .i64 x.2.2.2.2))=(l.set i x).flatMap insC
 | [],_,_,h=>by simp at h
 | a :: l,0,x,_=>by simp [insC]
 | a :: l,i+1,x,h=>by
  have ih:=ze8 l i x (by simpa using h)
  rw [List.set_cons_succ,List.flatMap_cons,List.flatMap_cons,← ih]
  have e:∀ j (m:List Value) u,(insC a ++ m).set (j+5) u=insC a ++ m.set j u:=fun j m u=>by simp [insC]
  rw [show(i+1) * 5=i * 5+5 by omega,show i * 5+5+1=i * 5+1+5 by omega,show i * 5+5+2=i * 5+2+5 by omega,show i * 5+5+3=i * 5+3+5 by omega,show i * 5+5+4=i * 5+4+5 by omega,e,e,e,e,e]
theorem Fx.setc {w wr:World} {g3 g4 ga gf gc cc:Nat} {us:Array Value} {vp:Value} {lp:List (ByteArray × Int × Int)} {lc:List Ins} (h:Fx w wr g3 g4 ga gf us vp (.slice (some ⟨gc,0,none⟩) lc.length cc) lp lc) (i:Nat) (hi:i<lc.length) (x:Ins) :
  Fx w (((((wr.setCell ⟨gc,i * 5,none⟩ (.int .i64 x.1)).setCell ⟨gc,i * 5+1,none⟩ (.int .i64 x.2.1)).setCell ⟨gc,i * 5+2,none⟩ (.int .i64 x.2.2.1)).setCell ⟨gc,i * 5+3,none⟩ (.int .i64 x.2.2.2.1)).setCell ⟨gc,i * 5+4,none⟩ (.int .i64 x.2.2.2.2)) g3 g4 ga gf us vp (.slice (some ⟨gc,0,none⟩) lc.length cc) lp (lc.set i x):=by
 have f:=fun {g:Nat} {t:TypeId} {cs:Array Value} (hb:Box wr g t cs) (hne:54≠t)=>(show g≠gc from fun e=>zb h.rc hb hne gc rfl e.symm)
 have five:=fun {g:Nat} {t:TypeId} {cs:Array Value} (hb:Box wr g t cs) (hn:g≠gc)=>(show Box (((((wr.setCell ⟨gc,i * 5,none⟩ (.int .i64 x.1)).setCell ⟨gc,i * 5+1,none⟩ (.int .i64 x.2.1)).setCell ⟨gc,i * 5+2,none⟩ (.int .i64 x.2.2.1)).setCell ⟨gc,i * 5+3,none⟩ (.int .i64 x.2.2.2.1)).setCell ⟨gc,i * 5+4,none⟩ (.int .i64 x.2.2.2.2)) g t cs from((((hb.far (p:=⟨gc,i * 5,none⟩) hn _).far (p:=⟨gc,i * 5+1,none⟩) hn _).far (p:=⟨gc,i * 5+2,none⟩) hn _).far (p:=⟨gc,i * 5+3,none⟩) hn _).far (p:=⟨gc,i * 5+4,none⟩) hn _)
 have hgc:=(own_ge h.rc (b:=gc) rfl).1
 have np:∀ k,vp.ownBlock=some k→k≠gc:=fun k hk e=>zc h.rp h.rc (by decide) k hk (by rw [e];rfl)
 refine⟨five h.b1 (f h.b1 (by decide)),five h.b2 (f h.b2 (by decide)),five h.b3 (f h.b3 (by decide)),five h.b4 (f h.b4 (by decide)),five h.ba (f h.ba (by decide)),five h.bf (f h.bf (by decide)),
  zd (zd (zd (zd (zd h.rp (p:=⟨gc,i * 5,none⟩) np _) (p:=⟨gc,i * 5+1,none⟩) np _) (p:=⟨gc,i * 5+2,none⟩) np _) (p:=⟨gc,i * 5+3,none⟩) np _) (p:=⟨gc,i * 5+4,none⟩) np _,?_,
  ((((h.below.setCell (p:=⟨gc,i * 5,none⟩) hgc _).setCell (p:=⟨gc,i * 5+1,none⟩) hgc _).setCell (p:=⟨gc,i * 5+2,none⟩) hgc _).setCell (p:=⟨gc,i * 5+3,none⟩) hgc _).setCell (p:=⟨gc,i * 5+4,none⟩) hgc _,h.lt⟩
 rw [List.length_set,← ze8 lc i x hi]
 exact(World.ownsRow.stored (World.ownsRow.stored (World.ownsRow.stored (World.ownsRow.stored (World.ownsRow.stored h.rc _ _).1 _ _).1 _ _).1 _ _).1 _ _).1
theorem Fx.same {w W:World} {g3 g4 ga gf:Nat} {us:Array Value} {vp vc:Value} {lp:List (ByteArray × Int × Int)} {lc lc':List Ins} (h:Fx w W g3 g4 ga gf us vp vc lp lc) (e:lc=lc'):Fx w W g3 g4 ga gf us vp vc lp lc':=e ▸ h
theorem Fx.at_ {w W:World} {g3 g4 ga gf:Nat} {us:Array Value} {vp vc:Value} {lp:List (ByteArray × Int × Int)} {lc:List Ins} (h:Fx w W g3 g4 ga gf us vp vc lp lc) :
  ObAt W (.slice (some ⟨ga,0,none⟩) 3 3) (.slice (some ⟨gf,0,none⟩) 2 2) vp vc (fixOb lp lc):=by
 refine⟨.inr ⟨ga,0,3,rfl,h.ba.lt,fun k u hk=>?_⟩,.inr ⟨gf,0,2,rfl,h.bf.lt,fun k u hk=>?_⟩,CellsAt.of_own h.rp (by decide),CellsAt.of_own h.rc (by decide)⟩
 ·rw [Nat.zero_add,h.ba.cell k]
  simpa [fixOb,atomCells] using hk
 ·rw [Nat.zero_add,h.bf.cell k]
  simpa [fixOb,funCells,funC] using hk
def Bin (w:World) (v:Value) (l:List Nat):Prop:=CellsAt w v l.length (bysV l)∧∀ k c,v=.slice none k c→c=0
theorem Bin.below {w w':World} {v:Value} {l:List Nat} (h:Bin w v l) (hb:Below w.heap.size w w'):Bin w' v l:=⟨h.1.below hb,h.2⟩
theorem Strict.bin {w:World} {base:Nat} {v:Value} {l:List Nat} (h:Strict w base v l):Bin w v l:=by
 refine⟨CellsAt.of_own h (by decide),?_⟩
 rintro k c rfl
 rcases h.2 with⟨h1,_⟩ | ⟨g,cap,cur,h1,_⟩
 ·injection h1
 ·injection h1 with h1
  cases h1
theorem Row.bin {w:World} {base:Nat} {v:Value} {l:List Nat} (h:Row w base v l):Bin w v l:=by
 rcases h with h | ⟨h0,g,cur,fz,rfl,hg,hh,hc⟩
 ·exact h.bin
 ·refine⟨.inr ⟨g,0,_,rfl,(Array.getElem?_eq_some_iff.1 hh).1,fun k u hk=>?_⟩,?_⟩
  ·rw [← hc,Array.getElem?_toList] at hk
   simp [World.cell?,hh,hk]
  ·rintro k c h
   injection h with h1 h2 h3
   cases h1
structure Er (w wr:World) (g:Nat) (us:Array Value) (v:Value) (l:List Nat):Prop where
 ck:CkR w wr g us
 bin:Bin wr v l
theorem Er.next {w wr w':World} {g:Nat} {us:Array Value} {v v':Value} {l l':List Nat} (h:Er w wr g us v l) (hs:Row w' wr.heap.size v' l') (hb:Below wr.heap.size wr w'):Er w w' g us v' l':=⟨h.ck.up hb,hs.bin⟩
end Go.Proofs.YtlmbiafloiompaaGreatDoor
