/-
  2 texts in one (SortL VerSO). Conditions: those of each theorem.
-/
import Derived.Shelf.SlSortCmp.WholeK
import Derived.Shelf.SlSortCmp.NoneTotal
import Derived.Shelf.SlGeneric
import Derived.Ground.SlsfProg
import Derived.Test.YtlmbiafloiompaaGreatDoorProg
import Derived.Test.YtlmbiafloiompaaGreatDoorJO28
import Derived.Test.YtlmbiafloiompaaGreatDoorJO03
import Derived.Sort.Grow
import Derived.Sort.OwnSorted
set_option linter.unusedVariables false
set_option linter.unusedSimpArgs false
namespace Go.Proofs
open Go.Shelf
def Tryz.sortSpan_ren:Go.Shelf.Ren:=⟨fun | 6=>90 | 15=>120 | 14=>119 | 28=>154 | 29=>155 | 20=>146 | 21=>147 | 22=>148 | 23=>149 | 24=>150 | 25=>151 | 26=>152 | 27=>153 | 46=>169 | 47=>170 | 48=>171 | 49=>172 | 50=>173 | 57=>187 | n=>n,fun | 22=>125 | 24=>128 | 25=>170 | 3=>3 | 39=>204 | 0=>0 | 53=>55 | 55=>72 | 4=>4 | 46=>218 | 45=>217 | 50=>151 | 5=>5 | 9=>9 | 66=>240 | 70=>244 | 76=>254 | 77=>214 | n=>n,fun | n=>n⟩
theorem Tryz.sortSpan:Go.Proofs.SlLaysF0.n6 Tryz.prog Tryz.sortSpan_ren:={
 mixed:=by kernel_rfl
 f6:=⟨Tryz.f90.name,by decide,Tryz.func90.trans (congrArg some (by kernel_rfl))⟩
 f14:=⟨Tryz.f119.name,by decide,Tryz.func119.trans (congrArg some (by kernel_rfl))⟩
 f15:=Tryz.func120.trans (congrArg some (by kernel_rfl))
 f20:=⟨Tryz.f146.name,by decide,Tryz.func146.trans (congrArg some (by kernel_rfl))⟩
 f21:=⟨Tryz.f147.name,by decide,Tryz.func147.trans (congrArg some (by kernel_rfl))⟩
 f22:=⟨Tryz.f148.name,by decide,Tryz.func148.trans (congrArg some (by kernel_rfl))⟩
 f23:=⟨Tryz.f149.name,by decide,Tryz.func149.trans (congrArg some (by kernel_rfl))⟩
 f24:=⟨Tryz.f150.name,by decide,Tryz.func150.trans (congrArg some (by kernel_rfl))⟩
 f25:=⟨Tryz.f151.name,by decide,Tryz.func151.trans (congrArg some (by kernel_rfl))⟩
 f26:=⟨Tryz.f152.name,by decide,Tryz.func152.trans (congrArg some (by kernel_rfl))⟩
 f27:=⟨Tryz.f153.name,by decide,Tryz.func153.trans (congrArg some (by kernel_rfl))⟩
 f28:=Tryz.func154.trans (congrArg some (by kernel_rfl))
 f29:=Tryz.func155.trans (congrArg some (by kernel_rfl))
 f46:=⟨Tryz.f169.name,by decide,Tryz.func169.trans (congrArg some (by kernel_rfl))⟩
 f47:=Tryz.func170.trans (congrArg some (by kernel_rfl))
 f48:=Tryz.func171.trans (congrArg some (by kernel_rfl))
 f49:=⟨Tryz.f172.name,by decide,Tryz.func172.trans (congrArg some (by kernel_rfl))⟩
 f50:=⟨Tryz.f173.name,by decide,Tryz.func173.trans (congrArg some (by kernel_rfl))⟩
 f57:=⟨Tryz.f187.name,by decide,Tryz.func187.trans (congrArg some (by kernel_rfl))⟩
 t0:=Tryz.underlying0
 a0:=Tryz.isAgg0
 z0:=Tryz.sizeOf0
 v0:=Tryz.zeroValue0
 t3:=Tryz.underlying3
 a3:=Tryz.isAgg3
 z3:=Tryz.sizeOf3
 v3:=Tryz.zeroValue3
 t4:=Tryz.underlying4
 a4:=Tryz.isAgg4
 z4:=Tryz.sizeOf4
 v4:=Tryz.zeroValue4
 t5:=Tryz.underlying5
 a5:=Tryz.isAgg5
 z5:=Tryz.sizeOf5
 v5:=Tryz.zeroValue5
 t9:=Tryz.underlying9
 a9:=Tryz.isAgg9
 z9:=Tryz.sizeOf9
 v9:=Tryz.zeroValue9
 t22:=Tryz.underlying125
 a22:=Tryz.isAgg125
 z22:=Tryz.sizeOf125
 v22:=Tryz.zeroValue125
 t25:=Tryz.underlying170
 a25:=Tryz.isAgg170
 z25:=Tryz.sizeOf170
 v25:=Tryz.zeroValue170
 t39:=Tryz.underlying204
 a39:=Tryz.isAgg204
 z39:=Tryz.sizeOf204
 v39:=Tryz.zeroValue204
 t45:=Tryz.underlying217
 a45:=Tryz.isAgg217
 z45:=Tryz.sizeOf217
 v45:=Tryz.zeroValue217
 t46:=Tryz.underlying218
 a46:=Tryz.isAgg218
 z46:=Tryz.sizeOf218
 v46:=Tryz.zeroValue218
 t50:=Tryz.underlying151
 a50:=Tryz.isAgg151
 z50:=Tryz.sizeOf151
 v50:=Tryz.zeroValue151
 t53:=Tryz.underlying55
 a53:=Tryz.isAgg55
 z53:=Tryz.sizeOf55
 v53:=Tryz.zeroValue55
 t55:=Tryz.underlying72
 a55:=Tryz.isAgg72
 z55:=Tryz.sizeOf72
 v55:=Tryz.zeroValue72
 t66:=Tryz.underlying240
 a66:=Tryz.isAgg240
 z66:=Tryz.sizeOf240
 v66:=Tryz.zeroValue240
 t70:=Tryz.underlying244
 a70:=Tryz.isAgg244
 z70:=Tryz.sizeOf244
 v70:=Tryz.zeroValue244
 t76:=Tryz.underlying254
 a76:=Tryz.isAgg254
 z76:=Tryz.sizeOf254
 v76:=Tryz.zeroValue254
 t77:=Tryz.underlying214
 a77:=Tryz.isAgg214
 z77:=Tryz.sizeOf214
 v77:=Tryz.zeroValue214 }
end Go.Proofs

namespace Go.Proofs.YtlmbiafloiompaaGreatDoor
open Go Go.RowKit Go.Sort
set_option maxRecDepth 100000
theorem spClosure (x y:Int × Int × Int) (W:World):Calls Tryz.prog 91 #[.agg #[.int .i64 x.1,.int .i64 x.2.1,.int .i64 x.2.2],.agg #[.int .i64 y.1,.int .i64 y.2.1,.int .i64 y.2.2]] W fun e w'=>e=.returned (.int .i64 (Lib.compareInt x.2.1 y.2.1))∧∃ q os',w'=grow (W.drewN q) os':=by
 have hcon:=fun W'=>Tryz.cmp_Compare_int x.2.1 y.2.1 W'
 generalize Lib.compareInt x.2.1 y.2.1=r at hcon ⊢
 go_enter Tryz.func91,Tryz.ntmps91
 go_wp2_with (go_at_call 92;refine(hcon _).mono ?_;rintro e w' ⟨rfl,rfl⟩)
 go_ret
 exact⟨rfl,0,_,by rw [alloc_eq_grow,alloc_eq_grow,grow_grow];rfl⟩
theorem spLt (x y:Int × Int × Int):ltOf (fun x y:Int × Int × Int=>Lib.compareInt x.2.1 y.2.1) x y=decide (x.2.1<y.2.1):=by
 unfold ltOf Lib.compareInt
 by_cases h1:x.2.1<y.2.1
 ·simp [h1]
 ·by_cases h2:y.2.1<x.2.1 <;> simp [h1,h2]
theorem spSwo:SWO (ltOf fun x y:Int × Int × Int=>Lib.compareInt x.2.1 y.2.1) where
 irrefl x:=by rw [spLt];simp
 trans x y z h1 h2:=by rw [spLt] at *;simp at *;omega
 ntrans x y z h1 h2:=by rw [spLt] at *;simp at *;omega
theorem za18 (l:List (Int × Int × Int)):flatK spC 3 l.toArray=(l.flatMap spC).toArray:=by
 apply Array.ext
 ·rw [size_flatK,List.size_toArray,List.size_toArray,zd2 spC 3 l (fun _ _=>rfl)]
 ·intro j h1 h2
  rw [size_flatK,List.size_toArray] at h1
  have hk:j / 3<l.length:=by omega
  have e:=zi2 spC 3 l (fun _ _=>rfl) (j / 3) l[j / 3] (List.getElem?_eq_getElem hk) (j % 3) (Nat.mod_lt _ (by decide))
  rw [show j / 3 * 3+j % 3=j by omega] at e
  have h3:=get_flatK spC 3 l.toArray j (by rw [List.size_toArray];exact h1)
  rw [getElem!_pos _ j (by rw [size_flatK,List.size_toArray];exact h1)] at h3
  rw [h3,List.getElem_toArray]
  have h2':j<(l.flatMap spC).length:=by simpa using h2
  have h4:(l.flatMap spC)[j]?=some ((l.flatMap spC)[j]'h2'):=List.getElem?_eq_getElem h2'
  rw [e] at h4
  have h5:l.toArray[j / 3]! = l[j / 3]:=by rw [getElem!_pos _ (j / 3) (by simpa using hk)];simp
  rw [h5]
  have h6:j % 3<(spC l[j / 3]).length:=Nat.mod_lt _ (by decide)
  rw [List.getElem?_eq_getElem h6] at h4
  rw [getElem!_pos (spC l[j / 3]) (j % 3) h6]
  exact Option.some.inj h4
theorem zn14 {w:World} {g n:Nat} {os:Array Obj} {cur:Array Value} {e:TypeId} {fr:Nat × Nat} (d:Array Value) (hb:w.heap[g]?=some (.cells cur e fr)) :
  (grow (putRow id (Sort.ahead w n) g 0 d) os).heap[g]?=some (.cells (putCells id 0 d cur) e fr):=by
 have hg:g<w.heap.size:=(Array.getElem?_eq_some_iff.1 hb).1
 rw [heap_grow_old _ _ (by simpa using hg)]
 simp [putRow,mapBlock,Sort.ahead,Array.getElem?_modify,hb,onCells]
theorem zv19 {w:World} {g n:Nat} {os:Array Obj} (d:Array Value):Fr (fun k=>k=g) w (grow (putRow id (Sort.ahead w n) g 0 d) os):=by
 refine⟨rfl,rfl,rfl,by simp,fun k hk hne=>?_⟩
 rw [heap_grow_old _ _ (by simpa using hk)]
 have:g≠k:=fun e=>hne e.symm
 simp [putRow,mapBlock,Sort.ahead,Array.getElem?_modify,this]
theorem zg11 (cur:Array Value) (ts:List Value) (h:ts.length≤cur.size):(putCells id 0 ts.toArray cur).toList.take ts.length=ts:=by
 apply List.ext_getElem?
 intro j
 by_cases hj:j<ts.length
 ·rw [List.getElem?_take_of_lt hj,Array.getElem?_toList]
  simp [putCells,hj,show j<cur.size by omega]
 ·rw [List.getElem?_take_eq_none (by omega),List.getElem?_eq_none (by omega)]
theorem zx18:SortNil:=fun w=>AnyF.slices_SortFunc_none Tryz.sortSpan none 0 _ w
theorem sort_ok:SortOk:=by
 intro base g cap l w hown hl
 have eg:∀ args w,(callFunc 91 args).run Tryz.prog w=.ok (.enter 91 args) w:=enters_of Tryz.func91 (by kernel_rfl) rfl
 rcases hown.2 with⟨h0,_⟩ | ⟨g',cap',cur,hv,hbg,hb,h1,h2,h3,h4⟩
 ·cases h0
 injection hv with hv1 hv2 hv3
 injection hv1 with hv1
 injection hv1 with hv1
 subst hv1 hv3
 have hlen:(l.flatMap spC).length=l.length * 3:=zd2 spC 3 l (fun _ _=>rfl)
 have hH:HoldsK spC 3 w g 0 l.toArray:=by
  unfold HoldsK
  rw [za18]
  intro j hj
  rw [List.size_toArray] at hj
  refine⟨?_,hown.frozenAt (0+j)⟩
  rw [hown.cellAt (0+j) (by omega),Nat.zero_add,List.getElem?_eq_getElem hj]
  rw [getElem!_pos _ j (by simpa using hj),List.getElem_toArray]
  rfl
 have hblk:g<w.heap.size:=(Array.getElem?_eq_some_iff.1 hb).1
 have hcon:=AnyQ.slices_SortFunc Tryz.sortSpan 3 Tryz.isAgg128 Tryz.sizeOf128 spC (fun _=>rfl) (fun x v hv=>by simp [spC] at hv;rcases hv with rfl | rfl | rfl <;> rfl) (fun x y=>Lib.compareInt x.2.1 y.2.1) spSwo 91 #[] g 0 cap l.toArray w eg (fun _ _ _ _ x y=>spClosure x y _) hH hblk (by rw [List.size_toArray];omega)
 rw [List.size_toArray] at hcon
 refine hcon.mono ?_
 rintro e w' ⟨rfl,d',n,os,hp,hs,rfl⟩
 obtain⟨hp1,_,hp3⟩:=hp
 have hp1:d'.size=l.length:=by simpa using hp1
 have e1:d'.extract 0 l.length=d':=by rw [← hp1];exact Array.extract_size
 have e2:l.toArray.extract 0 l.length=l.toArray:=by
  have:=Array.extract_size (xs:=l.toArray)
  rw [List.size_toArray] at this
  exact this
 rw [e1,e2] at hp3
 have hdl:d'.toList.length=l.length:=by rw [Array.length_toList,hp1]
 refine⟨rfl,d'.toList,by simpa using hp3,?_,?_,?_⟩
 ·rw [List.pairwise_iff_getElem]
  intro i j hi hj hij
  have h:=hs i j (Nat.zero_le _) hij (by omega)
  rw [spLt,decide_eq_false_iff_not] at h
  rw [getElem!_pos d' i (by rw [hp1];omega),getElem!_pos d' j (by rw [hp1];omega)] at h
  rw [Array.getElem_toList,Array.getElem_toList]
  omega
 ·have ef:flatK spC 3 d'=(d'.toList.flatMap spC).toArray:=by
   have:=za18 d'.toList
   rwa [Array.toArray_toList] at this
  have hfl:(d'.toList.flatMap spC).length=l.length * 3:=by rw [zd2 spC 3 _ (fun _ _=>rfl),hdl]
  refine⟨hfl,.inr ⟨g,cap,putCells id 0 (d'.toList.flatMap spC).toArray cur,rfl,hbg,?_,h1,h2,?_,?_⟩⟩
  ·unfold sortWorldK putRowK
   rw [ef]
   exact zn14 _ hb
  ·simp [putCells,h3]
  ·rw [← hfl]
   exact zg11 cur _ (by rw [hfl,h3];exact Nat.mul_le_mul_right 3 h1)
 ·unfold sortWorldK putRowK
  exact zv19 _
end Go.Proofs.YtlmbiafloiompaaGreatDoor
