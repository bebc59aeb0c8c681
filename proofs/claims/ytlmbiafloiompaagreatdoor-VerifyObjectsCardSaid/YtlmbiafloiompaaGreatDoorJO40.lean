/-
  3 texts in one (AsmF AsmG AsmH). Conditions: those of each theorem.
-/
import Derived.Test.YtlmbiafloiompaaGreatDoorJO39
import Derived.Laws.OwnMore
import Derived.Deep.QuietTactic
import Derived.BigQuiet
set_option linter.unusedVariables false
set_option linter.unusedSimpArgs false
namespace Go.Proofs.YtlmbiafloiompaaGreatDoor
open Go Go.RowKit Go.WideShapes Go.ChangeShapes
theorem Mk.laid {w0 w:World} {g M:Nat} {va vf vp vc vq:Value} {s:St} {B:Nat} (h:Mk w0 w g M va vf vp vc vq s) (hp:LaidC B w0):LaidC B w:=hp.up h.below
def NumW (w0 w:World) (g M:Nat) (va vf vp vc vq:Value) (s:St) (r:Option (Int × Ob)) (e:Ending) (w':World):Prop:=
 match r with
 | none=>e=.returned (.tuple #[.int .i64 0,.bool false])∧Below w0.heap.size w0 w'
 | some (n,o)=>∃ ua uf up,e=.returned (.tuple #[.int .i64 n,.bool true])∧Mk w0 w' g M ua uf up vc vq { s with ob:=o }∧MkF w w' g M va vf vp vc vq ua uf up vc vq
theorem zo6 {w0 w:World} {g M:Nat} {va vf vp vc vq:Value} {s:St} {r:Option (Int × Ob)} {w':World} (h:r=none) (hb:Below w0.heap.size w0 w'):NumW w0 w g M va vf vp vc vq s r (.returned (.tuple #[.int .i64 0,.bool false])) w':=by
 subst h
 exact⟨rfl,hb⟩
theorem zp6 {w0 w:World} {g M:Nat} {va vf vp vc vq ua uf up:Value} {s:St} {r:Option (Int × Ob)} {n:Int} {o:Ob} {w':World} (h:r=some (n,o)) (hm:Mk w0 w' g M ua uf up vc vq { s with ob:=o }) (hf:MkF w w' g M va vf vp vc vq ua uf up vc vq):NumW w0 w g M va vf vp vc vq s r (.returned (.tuple #[.int .i64 n,.bool true])) w':=by
 subst h
 exact⟨ua,uf,up,rfl,hm,hf⟩
set_option maxRecDepth 100000 in
set_option maxHeartbeats 4000000 in
theorem zp16 (w0:World) (g M:Nat) (va vf vp vc vq:Value) (s:St) (kind:Int) (x:ByteArray) (hx:x.size≤1048576) (hn:isNamedB kind x.data.toList=true) (hl:s.ob.atoms.length≤1000000∧s.ob.funs.length≤1000000∧s.ob.preds.length≤1000000) {B:Nat} (hp:LaidC B w0) (w:World) (hk:Mk w0 w g M va vf vp vc vq s) :
  Calls Tryz.prog 82 #[.pointer (some ⟨g,0,none⟩),.int .i64 kind,.string x] w (NumW w0 w g M va vf vp vc vq s (numStep kind x.data.toList s.ob)):=by
 have HK:=hD hk
 have HP:=hD hp
 by_cases h3:kind=3
 ·subst h3
  have HE:Hid (numStep 3 x.data.toList s.ob=if nameOk x=true then some ((placeOf s.ob.atoms x:Int),{ s.ob with atoms:=addTo s.ob.atoms x }) else none):=hD (by rw [numStep,if_pos rfl,str_bs])
  have HT:=hD (fun w=>zu10 x w (by unfold maxLen;omega))
  have HS:=hD (fun W h=>ze15 w0 g M va vf vp vc vq s x hl.1 W h)
  generalize numStep 3 x.data.toList s.ob=r at HE
  clear hk hp
  cases h:nameOk x with
  | false=>
   rw [h] at HT
   have HX:Hid (r=none):=hD (by rw [HE.out,h,if_neg (by simp)])
   clear h
   go_enter Tryz.func82,Tryz.ntmps82
   go_wp2_with (go_at_call 85;refine(HT.out _).mono ?_;rintro e w2 ⟨rfl,rfl⟩)
   go_ret2
   exact zo6 HX.out HK.out.below
  | true=>
   rw [h] at HT
   have HX:Hid (r=some ((placeOf s.ob.atoms x:Int),{ s.ob with atoms:=addTo s.ob.atoms x })):=hD (by rw [HE.out,h,if_pos rfl])
   clear h
   go_enter Tryz.func82,Tryz.ntmps82
   go_wp2_with (first
    | (go_at_call 85;refine(HT.out _).mono ?_;rintro e w2 ⟨rfl,rfl⟩)
    | (go_at_call 108;refine(HS.out _ HK.out).mono ?_;rintro e w3 ⟨va',rfl,hk3,hf3⟩;have HK3:=hD hk3;have HF3:=hD hf3;clear hk3 hf3))
   go_ret2
   exact zp6 HX.out HK3.out HF3.out
 by_cases h4:kind=4
 ·subst h4
  have HE:Hid (numStep 4 x.data.toList s.ob=(funOf x.data.toList 1).map fun f=>((placeOf s.ob.funs f:Int),{ s.ob with funs:=addTo s.ob.funs f })):=hD (by rw [numStep,if_neg (by decide),if_pos rfl])
  have HR:=hD (fun w h=>zx5 x hx 1 w (B:=B) h)
  unfold OptFun at HR
  have HS:=hD (fun W f n h=>zd15 w0 g M va vf vp vc vq s f n hl.2.1 W h)
  unfold PlacedF at HS
  generalize numStep 4 x.data.toList s.ob=r at HE
  clear hk hp
  cases h:funOf x.data.toList 1 with
  | none=>
   rw [h] at HR HE
   have HX:Hid (r=none):=HE
   clear h
   go_enter Tryz.func82,Tryz.ntmps82
   go_wp2_with (go_at_call 74;refine(HR.out _ (HK.out.laid HP.out)).mono ?_;rintro e w2 ⟨rfl,hb2⟩;have HK2:=hD (HK.out.up hb2);clear hb2)
   go_ret2
   exact zo6 HX.out (HK2.out.alloc _).below
  | some f=>
   obtain⟨f,n⟩:=f
   rw [h] at HR HE
   have HX:Hid (r=some ((placeOf s.ob.funs (f,n):Int),{ s.ob with funs:=addTo s.ob.funs (f,n) })):=HE
   clear h
   go_enter Tryz.func82,Tryz.ntmps82
   go_upto_region 10 with(go_at_call 74;refine(HR.out _ (HK.out.laid HP.out)).mono ?_;rintro e w2 ⟨rfl,hb2⟩;have HK2:=hD ((HK.out.up hb2).alloc (.cells #[.string f,.int .i64 n] 61));have HB2:=hD (hb2.alloc hb2.size (.cells #[.string f,.int .i64 n] 61));have X2:=hD (Box.new w2 61 #[.string f,.int .i64 n]);clear hb2)
   have d0:=X2.out.cell 0
   have d1:=X2.out.cell 1
   go_region_law (go_simp;go_at_call 109;refine(HS.out _ f n (HK2.out.drewN 1)).mono ?_;rintro e w3 ⟨vf',rfl,hk3,hf3⟩;have HK3:=hD hk3;have HF3:=hD ((MkF.below (zo HB2.out 1)).trans hf3);clear hk3 hf3)
   all_goals
    go_wp2
    go_ret2
    exact zp6 HX.out HK3.out HF3.out
 by_cases h7:kind=7
 ·subst h7
  have HE:Hid (numStep 7 x.data.toList s.ob=(funOf x.data.toList 0).map fun f=>predStep s.ob f):=hD (by rw [numStep,if_neg (by decide),if_neg (by decide),if_pos rfl])
  have HR:=hD (fun w h=>zx5 x hx 0 w (B:=B) h)
  unfold OptFun at HR
  have HS:=hD (fun W f n h=>zt18 w0 g M va vf vp vc vq s f n hl W h)
  unfold PlacedP at HS
  generalize numStep 7 x.data.toList s.ob=r at HE
  clear hk hp
  cases h:funOf x.data.toList 0 with
  | none=>
   rw [h] at HR HE
   have HX:Hid (r=none):=HE
   clear h
   go_enter Tryz.func82,Tryz.ntmps82
   go_wp2_with (go_at_call 74;refine(HR.out _ (HK.out.laid HP.out)).mono ?_;rintro e w2 ⟨rfl,hb2⟩;have HK2:=hD (HK.out.up hb2);clear hb2)
   go_ret2
   exact zo6 HX.out (HK2.out.alloc _).below
  | some f=>
   obtain⟨f,n⟩:=f
   rw [h] at HR HE
   have HX:Hid (r=some (predStep s.ob (f,n))):=HE
   clear h
   go_enter Tryz.func82,Tryz.ntmps82
   go_upto_region 15 with(go_at_call 74;refine(HR.out _ (HK.out.laid HP.out)).mono ?_;rintro e w2 ⟨rfl,hb2⟩;have HK2:=hD ((HK.out.up hb2).alloc (.cells #[.string f,.int .i64 n] 61));have HB2:=hD (hb2.alloc hb2.size (.cells #[.string f,.int .i64 n] 61));have X2:=hD (Box.new w2 61 #[.string f,.int .i64 n]);clear hb2)
   have d0:=X2.out.cell 0
   have d1:=X2.out.cell 1
   go_wp2_with (go_at_call 75;refine(HS.out _ f n HK2.out).mono ?_;rintro e w3 ⟨vp',rfl,hk3,hf3⟩;have HK3:=hD hk3;have HF3:=hD ((MkF.below HB2.out).trans hf3);clear hk3 hf3)
   go_ret2
   exact zp6 HX.out HK3.out HF3.out
 have h8:kind=8:=by
  rcases of_decide_eq_true hn with h | h | h | h
  ·exact absurd h h3
  ·exact absurd h h4
  ·exact absurd h h7
  ·exact h.1
 subst h8
 have HE:Hid (numStep 8 x.data.toList s.ob=(labelOf x.data.toList).map fun n=>(n,s.ob)):=hD (by rw [numStep,if_neg (by decide),if_neg (by decide),if_neg (by decide)])
 have HR:=hD (fun w h=>zs6 x hx w (B:=B) h)
 unfold OptNum at HR
 generalize numStep 8 x.data.toList s.ob=r at HE
 clear hk hp h3 h4 h7
 cases h:labelOf x.data.toList with
 | none=>
  rw [h] at HR HE
  have HX:Hid (r=none):=HE
  clear h
  go_enter Tryz.func82,Tryz.ntmps82
  go_wp2_with (go_at_call 77;refine(HR.out _ (HK.out.laid HP.out)).mono ?_;rintro e w2 ⟨rfl,hb2⟩;have HK2:=hD (HK.out.up hb2);clear hb2)
  go_ret2
  exact zo6 HX.out HK2.out.below
 | some n=>
  rw [h] at HR HE
  have HX:Hid (r=some (n,s.ob)):=HE
  clear h
  go_enter Tryz.func82,Tryz.ntmps82
  go_wp2_with (go_at_call 77;refine(HR.out _ (HK.out.laid HP.out)).mono ?_;rintro e w2 ⟨rfl,hb2⟩;have HK2:=hD (HK.out.up hb2);have HF2:=hD (MkF.below (g:=g) (M:=M) (va:=va) (vf:=vf) (vp:=vp) (vc:=vc) (vq:=vq) hb2);clear hb2)
  go_ret2
  exact zp6 HX.out HK2.out HF2.out
def LineW (w0:World) (g M:Nat) (r:Except Int St) (e:Ending) (w':World):Prop:=
 match r with
 | .error c=>e=.returned (.int .i64 c)∧Below w0.heap.size w0 w'
 | .ok s=>∃ va vf vp vc vq,e=.returned (.int .i64 0)∧Mk w0 w' g M va vf vp vc vq s
theorem ze2 {w0:World} {g M:Nat} {r:Except Int St} {c:Int} {w':World} (h:r=.error c) (hb:Below w0.heap.size w0 w'):LineW w0 g M r (.returned (.int .i64 c)) w':=by
 subst h
 exact⟨rfl,hb⟩
theorem zh5 {w0:World} {g M:Nat} {va vf vp vc vq:Value} {r:Except Int St} {s:St} {w':World} (h:r=.ok s) (hm:Mk w0 w' g M va vf vp vc vq s):LineW w0 g M r (.returned (.int .i64 0)) w':=by
 subst h
 exact⟨va,vf,vp,vc,vq,rfl,hm⟩
def labLine (w:List UInt8) (s:St):Except Int St:=
 match labelOf w with
 | none=>.error 17
 | some k=>if (labOf s.labs k).isSome=true then .error 11 else .ok { s with labs:=s.labs ++ [(k,(s.ob.code.length:Int))] }
theorem zw11 {w:List UInt8} {g n:Int} (h:numUpto w g=some n):0≤n∧n≤g:=by
 unfold numUpto at h
 split at h
 ·rename_i hc
  injection h with h
  subst h
  exact hc
 ·cases h
theorem zl7 {w:List UInt8} {n:Int} (h:labelOf w=some n):0≤n∧n≤1023:=by
 unfold labelOf at h
 split at h
 ·exact zw11 h
 ·cases h
set_option maxHeartbeats 4000000 in
theorem zr13 (w0:World) (g M:Nat) (va vf vp vc vq:Value) (s:St) (x:ByteArray) (hx:x.size≤1048576) (hl:s.labs.length≤1000000∧s.ob.code.length≤1000000) {B:Nat} (hp:LaidC B w0) (w:World) (hk:Mk w0 w g M va vf vp vc vq s) :
  Calls Tryz.prog 39 #[.pointer (some ⟨g,0,none⟩),.string x] w (LineW w0 g M (labLine x.data.toList s)):=by
 have HK:=hD hk
 have HP:=hD hp
 have HE:Hid (labLine x.data.toList s=match labelOf x.data.toList with
  | none=>.error 17
  | some k=>if (labOf s.labs k).isSome=true then .error 11 else .ok { s with labs:=s.labs ++ [(k,(s.ob.code.length:Int))] }):=hD rfl
 have HR:=hD (fun w h=>zs6 x hx w (B:=B) h)
 unfold OptNum at HR
 generalize labLine x.data.toList s=r at HE
 clear hk hp
 cases h:labelOf x.data.toList with
 | none=>
  rw [h] at HR HE
  have HX:Hid (r=.error 17):=HE
  clear h
  go_enter Tryz.func39,Tryz.ntmps39
  go_wp2_with (go_at_call 77;refine(HR.out _ (HK.out.laid HP.out)).mono ?_;rintro e w2 ⟨rfl,hb2⟩;have HK2:=hD (HK.out.up hb2);clear hb2)
  go_ret
  exact ze2 HX.out HK2.out.below
 | some k=>
  have hbd:=zl7 h
  rw [h] at HR HE
  clear h
  have hwf:(Lit.int .i64 k).wf=true:=wfI (by omega) (by omega)
  have HF:=hD hwf
  clear hwf
  go_enter Tryz.func39,Tryz.ntmps39
  go_upto_region 4 with(go_at_call 77;refine(HR.out _ (HK.out.laid HP.out)).mono ?_;rintro e w2 ⟨rfl,hb2⟩;have HK2:=hD (HK.out.up hb2);clear hb2)
  have q4:=HK2.out.box.cell 4
  have hlk:=HK2.out.rm.look2 k HF.out
  cases hv:labOf s.labs k with
  | some v=>
   rw [hv] at hlk
   have HX:Hid (r=.error 11):=hD (by rw [HE.out];simp [hv])
   clear hv
   go_wp2
   go_ret
   exact ze2 HX.out HK2.out.below
  | none=>
   rw [hv] at hlk
   have HX:Hid (r=.ok { s with labs:=s.labs ++ [(k,(s.ob.code.length:Int))] }):=hD (by rw [HE.out];simp [hv])
   obtain⟨A4,c4,hvc,_⟩:=zl HK2.out.rc
   have q3:=HK2.out.box.cell 3
   obtain⟨w6,hr6,HM6⟩:=(HK2.out.up (bdrew1 w2)).lab k (s.ob.code.length:Int) HF.out (wfI (by omega) (by omega)) (by unfold maxLen;omega) hv
   rw [hvc] at q3
   clear hv hvc
   go_upto_region 7 with(fail)
   go_region
   all_goals
    go_wp2
    go_ret
    exact zh5 HX.out HM6.out
def cntOf (l:List (ByteArray × Int × Int)) (n:Int):Nat:=(l.filter fun q=>q.2.2 == n).length
theorem cnt_take (l:List (ByteArray × Int × Int)) (n:Int) (k:Nat) (h:k<l.length):cntOf (l.take (k+1)) n=cntOf (l.take k) n+if l[k].2.2=n then 1 else 0:=by
 unfold cntOf
 rw [List.take_succ_eq_append_getElem h,List.filter_append,List.length_append]
 by_cases e:l[k].2.2=n
 ·simp [e]
 ·simp [e]
theorem cnt_le (l:List (ByteArray × Int × Int)) (n:Int):cntOf l n≤l.length:=List.length_filter_le _ _
set_option maxHeartbeats 4000000 in
theorem zp5 (w0:World) (g M:Nat) (va vf vp vc vq:Value) (s:St) (n:Int) (hl:s.ob.preds.length≤1000000∧s.ob.code.length≤1000000) (w:World) (hk:Mk w0 w g M va vf vp vc vq s) :
  Calls Tryz.prog 41 #[.pointer (some ⟨g,0,none⟩),.int .i64 n] w fun e w'=>e=.returned (.int .i64 (if (s.ob.code.length:Int)≤n ∨ 1<cntOf s.ob.preds n then 7 else 0))∧Mk w0 w' g M va vf vp vc vq s∧Below w.heap.size w w':=by
 obtain⟨A4,c4,hvc,_⟩:=zl hk.rc
 obtain⟨A3,c3,hvp,_⟩:=zl hk.rp
 subst hvc hvp
 have HK:=hD hk
 have HPR:=hD hk.at_.preds
 have q2:=hk.box.cell 2
 have q3:=hk.box.cell 3
 have HB:=hD (Below.refl w.heap.size w)
 obtain⟨r,hr⟩:∃ r:Int,(if (s.ob.code.length:Int)≤n ∨ 1<cntOf s.ob.preds n then 7 else 0)=r:=⟨_,rfl⟩
 have HR:=hD hr
 rw [hr]
 have HC:=hD (fun k h=>cnt_take s.ob.preds n k h)
 have HL:=hD (fun k=>cnt_le (s.ob.preds.take k) n)
 have H0:Hid (cntOf (s.ob.preds.take 0) n=0):=hD rfl
 have HALL:Hid (cntOf (s.ob.preds.take s.ob.preds.length) n=cntOf s.ob.preds n):=hD (by rw [List.take_length])
 clear hk hr
 go_enter Tryz.func41,Tryz.ntmps41
 go_wp2
 go_loopw [5,7,14] (fun c _ i wr=>∃ k:Nat,k≤s.ob.preds.length∧i=.int .i64 k∧c=.int .i64 (cntOf (s.ob.preds.take k) n:Nat)∧Hid (Below w.heap.size w wr)) (fun _ _ i _=>s.ob.preds.length - (intOf i).toNat)
 case atStart=>exact⟨0,by omega,rfl,by rw [H0.out];rfl,HB⟩
 obtain⟨k,hkl,rfl,rfl,HW⟩:=hrel
 clear HB H0
 by_cases hlt:k<s.ob.preds.length
 ·obtain⟨b,off,rfl,hb,hc0,hc1,hc2⟩:=zd1 HPR.out k hlt
  have d0:=(HW.out.cell (p:=⟨b,off+k * 3,none⟩) hb).trans hc0
  have d1:=(HW.out.cell (p:=⟨b,off+k * 3+1,none⟩) hb).trans hc1
  have d2:=(HW.out.cell (p:=⟨b,off+k * 3+2,none⟩) hb).trans hc2
  have HCK:=hD (HC.out k hlt)
  have hcl:=HL.out k
  rw [List.length_take] at hcl
  clear hc0 hc1 hc2
  generalize s.ob.preds[k].1=y0 at d0
  generalize s.ob.preds[k].2.1=y1 at d1
  generalize s.ob.preds[k].2.2=y2 at d2 HCK
  have HW2:=hD (HW.out.alloc HW.out.size (.cells #[.string y0,.int .i64 y1,.int .i64 y2] 64))
  generalize cntOf (s.ob.preds.take k) n=m at HCK hcl
  by_cases he:y2=n
  ·have HX:Hid (cntOf (s.ob.preds.take (k+1)) n=m+1):=hD (by rw [HCK.out,if_pos he])
   have e1:(y2 == n)=true:=by simpa using he
   clear he
   go_wp2
   go_roundw
   case rel=>exact⟨k+1,by omega,by go_num,by rw [HX.out];go_num,HW2⟩
   case measure=>simp [intOf];omega
  ·have HX:Hid (cntOf (s.ob.preds.take (k+1)) n=m):=hD (by rw [HCK.out,if_neg he];rfl)
   have e1:(y2 == n)=false:=by simpa using he
   clear he
   go_wp2
   go_roundw
   case rel=>exact⟨k+1,by omega,by go_num,by rw [HX.out],HW2⟩
   case measure=>simp [intOf];omega
 ·obtain rfl:k=s.ob.preds.length:=by omega
  rw [HALL.out]
  have p3:=(HK.out.up HW.out).box.cell 3
  have hcl:=cnt_le s.ob.preds n
  have HKW:=hD (HK.out.up HW.out)
  generalize cntOf s.ob.preds n=m at HR hcl
  clear q2 q3
  by_cases h1:(s.ob.code.length:Int)≤n
  ·have HX:Hid (r=7):=hD (by rw [← HR.out,if_pos (.inl h1)])
   go_wp2
   go_ret
   exact⟨by rw [HX.out];rfl,HKW.out,HW.out⟩
  ·by_cases h2:1<m
   ·have HX:Hid (r=7):=hD (by rw [← HR.out,if_pos (.inr h2)])
    have h3:(1:Int)<(m:Int):=by omega
    go_wp2
    go_ret
    exact⟨by rw [HX.out];rfl,HKW.out,HW.out⟩
   ·have HX:Hid (r=0):=hD (by rw [← HR.out,if_neg (by omega)])
    have h3:¬ (1:Int)<(m:Int):=by omega
    go_wp2
    go_ret
    exact⟨by rw [HX.out];rfl,HKW.out,HW.out⟩
theorem zi8 {w w':World} {l:List Int} {e:Ending} (hN:NewInts w l e w') :
  ∃ pl,e=.returned (.slice pl l.length l.length)∧Below w.heap.size w w'∧(0<l.length→pl=some ⟨w.heap.size,0,none⟩∧Box w' w.heap.size 3 (l.map (Value.int .i64)).toArray):=by
 rcases hN with⟨rfl,rfl,rfl⟩ | ⟨_,rfl,rfl⟩
 ·exact⟨none,rfl,Below.refl _ _,fun h=>absurd h (by simp)⟩
 ·exact⟨_,rfl,za w _,fun _=>⟨rfl,Box.new _ _ _⟩⟩
theorem zh9 (i:Ins):(argOf i).length=4:=rfl
theorem zg9 (op:Int) (l:List Int) (h:l.length=4):argOf (insOf op l)=l:=by
 match l,h with
 | [_,_,_,_],_=>rfl
theorem zi16 (i:Ins):insOf i.1 (argOf i)=i:=rfl
theorem zb18:∀ (l:List Ins) (i m:Nat) (hi:i<l.length),m<4→(l.flatMap insC)[i * 5+1+m]?=some (.int .i64 ((argOf l[i]).getD m 0))
 | [],i,m,hi,_=>by simp at hi
 | a :: l,0,m,hi,hm=>by
  rw [List.flatMap_cons]
  match m,hm with
  | 0,_=>rfl
  | 1,_=>rfl
  | 2,_=>rfl
  | 3,_=>rfl
 | a :: l,i+1,m,hi,hm=>by
  have ih:=zb18 l i m (by simpa using hi) hm
  rw [List.flatMap_cons,List.getElem_cons_succ,← ih,show(i+1) * 5+1+m=(insC a).length+(i * 5+1+m) by simp [insC];omega]
  rw [List.getElem?_append_right (by omega),Nat.add_sub_cancel_left]
theorem flat_op:∀ (l:List Ins) (i:Nat) (hi:i<l.length),(l.flatMap insC)[i * 5]?=some (.int .i64 l[i].1)
 | [],i,hi=>by simp at hi
 | a :: l,0,hi=>rfl
 | a :: l,i+1,hi=>by
  have ih:=flat_op l i (by simpa using hi)
  rw [List.flatMap_cons,List.getElem_cons_succ,← ih,show(i+1) * 5=(insC a).length+i * 5 by simp [insC];omega]
  rw [List.getElem?_append_right (by omega),Nat.add_sub_cancel_left]
theorem zc8:∀ (l:List Ins) (i m:Nat) (x:Int) (hi:i<l.length),m<4→(l.flatMap insC).set (i * 5+1+m) (.int .i64 x)=(l.set i (insOf l[i].1 ((argOf l[i]).set m x))).flatMap insC
 | [],i,m,x,hi,_=>by simp at hi
 | a :: l,0,m,x,hi,hm=>by
  match m,hm with
  | 0,_=>rfl
  | 1,_=>rfl
  | 2,_=>rfl
  | 3,_=>rfl
 | a :: l,i+1,m,x,hi,hm=>by
  have ih:=zc8 l i m x (by simpa using hi) hm
  rw [List.set_cons_succ,List.flatMap_cons,List.flatMap_cons,List.getElem_cons_succ,← ih,show(i+1) * 5+1+m=(i * 5+1+m)+5 by omega]
  simp [insC]
def codeAt (s:St) (i:Nat) (op:Int) (l:List Int):St:={ s with ob:={ s.ob with code:=s.ob.code.set i (insOf op l) } }
theorem Mk.code_cell {w0 w:World} {g M gc cc:Nat} {va vf vp vq:Value} {s:St} (h:Mk w0 w g M va vf vp (.slice (some ⟨gc,0,none⟩) s.ob.code.length cc) vq s) (i m:Nat) (hi:i<s.ob.code.length) (hm:m<4) :
  w.cell? ⟨gc,i * 5+1+m,none⟩=some (.int .i64 ((argOf s.ob.code[i]).getD m 0))∧w.frozen? ⟨gc,i * 5+1+m,none⟩=false:=by
 have hc:=h.rc.cells (g:=gc) rfl (i * 5+1+m) _ (zb18 s.ob.code i m hi hm)
 rw [add_plain,Nat.zero_add] at hc
 refine⟨hc,?_⟩
 rcases h.rc.2 with⟨h0,_⟩ | ⟨g',cap,cur,h1,_,hh,_⟩
 ·simp at h0
 ·injection h1 with h1 _ _
  injection h1 with h1
  injection h1 with h1
  subst h1
  exact frozen_of_row w gc (i * 5+1+m) cur _ hh
theorem Mk.code_op {w0 w:World} {g M gc cc:Nat} {va vf vp vq:Value} {s:St} (h:Mk w0 w g M va vf vp (.slice (some ⟨gc,0,none⟩) s.ob.code.length cc) vq s) (i:Nat) (hi:i<s.ob.code.length) :
  w.cell? ⟨gc,i * 5,none⟩=some (.int .i64 s.ob.code[i].1):=by
 have hc:=h.rc.cells (g:=gc) rfl (i * 5) _ (flat_op s.ob.code i hi)
 rw [add_plain,Nat.zero_add] at hc
 exact hc
theorem Mk.code_set {w0 w:World} {g M gc cc:Nat} {va vf vp vq:Value} {s:St} (h:Mk w0 w g M va vf vp (.slice (some ⟨gc,0,none⟩) s.ob.code.length cc) vq s) (i m:Nat) (hi:i<s.ob.code.length) (hm:m<4) (x:Int) :
  Mk w0 (w.setCell ⟨gc,i * 5+1+m,none⟩ (.int .i64 x)) g M va vf vp (.slice (some ⟨gc,0,none⟩) s.ob.code.length cc) vq (codeAt s i s.ob.code[i].1 ((argOf s.ob.code[i]).set m x)):=by
 have hgc:=(own_ge h.rc (b:=gc) rfl).1
 refine⟨h.box.far (p:=⟨gc,i * 5+1+m,none⟩) (fun e=>zb h.rc h.box (by decide) gc rfl e.symm) _,zd h.ra (p:=⟨gc,i * 5+1+m,none⟩) (fun k hk e=>zc h.ra h.rc (by decide) k hk (by rw [e];rfl)) _,
  zd h.rf (p:=⟨gc,i * 5+1+m,none⟩) (fun k hk e=>zc h.rf h.rc (by decide) k hk (by rw [e];rfl)) _,zd h.rp (p:=⟨gc,i * 5+1+m,none⟩) (fun k hk e=>zc h.rp h.rc (by decide) k hk (by rw [e];rfl)) _,?_,
  zd h.rq (p:=⟨gc,i * 5+1+m,none⟩) (fun k hk e=>zc h.rq h.rc (by decide) k hk (by rw [e];rfl)) _,
  h.rm.fr (S:=fun k=>k=gc) ((Fr.refl (fun k=>k=gc) w).setCell (p:=⟨gc,i * 5+1+m,none⟩) (.inl rfl) _) (fun e=>h.rm.ne_own h.rc gc rfl e.symm),h.below.setCell (p:=⟨gc,i * 5+1+m,none⟩) hgc _,h.lt⟩
 show World.ownsRow _ _ _ _ _ (s.ob.code.set i (insOf s.ob.code[i].1 ((argOf s.ob.code[i]).set m x))).length ((s.ob.code.set i (insOf s.ob.code[i].1 ((argOf s.ob.code[i]).set m x))).flatMap insC)
 rw [List.length_set,← zc8 s.ob.code i m x hi hm]
 exact(World.ownsRow.stored h.rc _ _).1
def PlP (labs:List (Int × Int)) (n:Nat) (L as_:List Int) (m:Nat) (P:List Int):Prop:=
 P.length=m∧placeArgs labs n L as_=(placeArgs labs n (L.drop m) (as_.drop m)).map (P ++ ·)
theorem PlP.start (labs:List (Int × Int)) (n:Nat) (L as_:List Int):PlP labs n L as_ 0 []:=⟨rfl,by simp⟩
theorem PlP.keep {labs:List (Int × Int)} {n:Nat} {L as_:List Int} {m:Nat} {P:List Int} (h:PlP labs n L as_ m P) (hL:m<L.length) (hA:m<as_.length) (hc:¬ (L.getD m 0=8∧as_.getD m 0≠65535)):PlP labs n L as_ (m+1) (P ++ [as_.getD m 0]):=by
 refine⟨by simp [h.1],?_⟩
 have e1:L.drop m=L.getD m 0 :: L.drop (m+1):=by
  rw [List.drop_eq_getElem_cons hL,List.getD_eq_getElem?_getD,List.getElem?_eq_getElem hL]
  rfl
 have e2:as_.drop m=as_.getD m 0 :: as_.drop (m+1):=by
  rw [List.drop_eq_getElem_cons hA,List.getD_eq_getElem?_getD,List.getElem?_eq_getElem hA]
  rfl
 rw [h.2,e1,e2,placeArgs,List.headD_cons,List.tail_cons,if_neg hc,Option.map_map]
 congr 1
 funext l
 simp
theorem PlP.put {labs:List (Int × Int)} {n:Nat} {L as_:List Int} {m:Nat} {P:List Int} {x:Int} (h:PlP labs n L as_ m P) (hL:m<L.length) (hA:m<as_.length) (hc:L.getD m 0=8∧as_.getD m 0≠65535) (hx:labOf labs (as_.getD m 0)=some x) (hn:x<(n:Int)):PlP labs n L as_ (m+1) (P ++ [x]):=by
 refine⟨by simp [h.1],?_⟩
 have e1:L.drop m=L.getD m 0 :: L.drop (m+1):=by
  rw [List.drop_eq_getElem_cons hL,List.getD_eq_getElem?_getD,List.getElem?_eq_getElem hL]
  rfl
 have e2:as_.drop m=as_.getD m 0 :: as_.drop (m+1):=by
  rw [List.drop_eq_getElem_cons hA,List.getD_eq_getElem?_getD,List.getElem?_eq_getElem hA]
  rfl
 rw [h.2,e1,e2,placeArgs,List.headD_cons,List.tail_cons,if_pos hc,hx]
 simp only
 rw [if_neg (by omega),Option.map_map]
 congr 1
 funext l
 simp
theorem PlP.bad {labs:List (Int × Int)} {n:Nat} {L as_:List Int} {m:Nat} {P:List Int} (h:PlP labs n L as_ m P) (hL:m<L.length) (hA:m<as_.length) (hc:L.getD m 0=8∧as_.getD m 0≠65535) (hx:labOf labs (as_.getD m 0)=none ∨ ∃ x,labOf labs (as_.getD m 0)=some x∧(n:Int)≤x):placeArgs labs n L as_=none:=by
 have e1:L.drop m=L.getD m 0 :: L.drop (m+1):=by
  rw [List.drop_eq_getElem_cons hL,List.getD_eq_getElem?_getD,List.getElem?_eq_getElem hL]
  rfl
 have e2:as_.drop m=as_.getD m 0 :: as_.drop (m+1):=by
  rw [List.drop_eq_getElem_cons hA,List.getD_eq_getElem?_getD,List.getElem?_eq_getElem hA]
  rfl
 rw [h.2,e1,e2,placeArgs,List.headD_cons,List.tail_cons,if_pos hc]
 rcases hx with hx | ⟨x,hx,hn⟩
 ·rw [hx]
  rfl
 ·rw [hx]
  simp only
  rw [if_pos hn]
  rfl
theorem PlP.done {labs:List (Int × Int)} {n:Nat} {L as_:List Int} {P:List Int} (h:PlP labs n L as_ L.length P):placeArgs labs n L as_=some (P ++ as_.drop L.length):=by
 rw [h.2,List.drop_length,placeArgs]
 rfl
def SetW (w0 w:World) (g M gc cc:Nat) (va vf vp vq:Value) (s:St) (i:Nat) (r:Option Ins) (e:Ending) (w':World):Prop:=
 match r with
 | none=>e=.returned (.int .i64 10)∧Below w0.heap.size w0 w'∧Fr (fun k=>k=gc) w w'
 | some x=>e=.returned (.int .i64 0)∧Mk w0 w' g M va vf vp (.slice (some ⟨gc,0,none⟩) s.ob.code.length cc) vq { s with ob:={ s.ob with code:=s.ob.code.set i x } }
end Go.Proofs.YtlmbiafloiompaaGreatDoor
