/-
  7 texts in one (VerTP AsmOB AsmPA AsmPB AsmPC AsmPD VerTA). Conditions: those of each theorem.
-/
import Derived.Test.YtlmbiafloiompaaGreatDoorJO45
import Derived.Test.YtlmbiafloiompaaGreatDoorJO09
import Derived.Test.YtlmbiafloiompaaGreatDoorJO44
import Derived.Test.YtlmbiafloiompaaGreatDoorJO05
import Derived.Test.YtlmbiafloiompaaGreatDoorJO35
import Derived.Test.YtlmbiafloiompaaGreatDoorJO36
set_option linter.unusedVariables false
set_option linter.unusedSimpArgs false
namespace Go.Proofs.YtlmbiafloiompaaGreatDoor
open Go
def told11A:List ByteArray:=[⟨#[112,114,101,100,32,112,47,49]⟩,⟨#[103,101,116,118,97,114,32,88,51,32,88,48]⟩,⟨#[112,114,111,99,101,101,100]⟩]
def told11B:List ByteArray:=[⟨#[112,114,101,100,32,112,47,49]⟩,⟨#[103,101,116,118,97,108,32,88,51,32,88,48]⟩,⟨#[112,114,111,99,101,101,100]⟩]
theorem zf21:(verifyOf (asmOf (told11A.map (·.data.toList))).1).1.map (·.x)=[1,9]∧(verifyOf (asmOf (told11A.map (·.data.toList))).1).2.2=(0,-1):=by decide +kernel
theorem zg21:(verifyOf (asmOf (told11A.map (·.data.toList))).1).1.map (fun s=>(s.x,s.y.length))=[(1,16),(9,16)]:=by decide +kernel
theorem zh21:(verifyOf (asmOf (told11B.map (·.data.toList))).1).2.2=(14,0):=by decide +kernel
end Go.Proofs.YtlmbiafloiompaaGreatDoor

namespace Go.Proofs.YtlmbiafloiompaaGreatDoor
open Go Go.RowKit Go.WideShapes Go.ChangeShapes
set_option maxRecDepth 100000 in
set_option maxHeartbeats 8000000 in
theorem zp20:PredKeeps:=by
 intro w0 g M va vf vp vc vq s n x hx hl B hp w hk
 have HK:=hD hk
 have HP:=hD hp
 have HL:=hD hl
 have HR:=hD (fun w h=>zx5 x (by omega) 0 w (B:=B) h)
 unfold OptFun at HR
 obtain⟨r,hr⟩:∃ r,predLine n x.data.toList s=r:=⟨_,rfl⟩
 rw [hr]
 unfold predLine at hr
 clear hk hp
 cases h:funOf x.data.toList 0 with
 | none=>
  rw [h] at HR hr
  have HX:Hid (r=.error 17):=hD hr.symm
  clear h hr hl
  go_enter Tryz.func37,Tryz.ntmps37
  go_wp2_with (go_at_call 74;refine(HR.out _ (HK.out.laid HP.out)).mono ?_;rintro e w2 ⟨rfl,hb2⟩;have HK2:=hD (HK.out.up hb2);clear hb2)
  go_ret
  exact ze2 HX.out (HK2.out.alloc _).below
 | some f=>
  obtain⟨f,m⟩:=f
  rw [h] at HR hr
  simp only at hr
  obtain⟨i,hi,h1,h2,h3⟩:=ze10 s.ob (f,m)
  obtain⟨s1,hs1⟩:∃ s1:St,s1={ s with ob:=(predStep s.ob (f,m)).2 }:=⟨_,rfl⟩
  have hi1:i<s1.ob.preds.length:=by rw [hs1];exact hi
  have hc1:s1.ob.code.length=s.ob.code.length:=by rw [hs1];exact congrArg List.length (zx1 s.ob (f,m))
  have hp1:s1.pts.length=s.pts.length:=by rw [hs1]
  have HX:Hid (r=if s1.ob.preds[i].2.2≠65535 then .error 11 else .ok { entAt s1 i (s1.ob.preds[i].1,s1.ob.preds[i].2.1) (s1.ob.code.length:Int) with pts:=s1.pts ++ [(n,(s1.ob.code.length:Int),true)] }):=hD (by
   rw [← hr]
   subst hs1
   simp only [h1,Int.toNat_natCast]
   rw [List.getD_eq_getElem?_getD,List.getElem?_eq_getElem hi,Option.getD_some,h2,h3,zx1]
   unfold entAt
   simp only [zx1])
  have HS:=hD (fun W h=>zt18 w0 g M va vf vp vc vq s f m (by omega) W h)
  rw [h1,← hs1] at HS
  unfold PlacedP at HS
  obtain⟨y,hy⟩:∃ y,s1.ob.preds[i].2.2=y:=⟨_,rfl⟩
  have HPC:Hid (∀ (w:World) (gp cp:Nat) (vp':Value),vp'=.slice (some ⟨gp,0,none⟩) s1.ob.preds.length cp→Mk w0 w g M va vf vp' vc vq s1→w.cell? ⟨gp,i * 3+2,none⟩=some (.int .i64 y)∧w.frozen? ⟨gp,i * 3+2,none⟩=false):=hD (fun w gp cp vp' e h=>by
   subst e
   rw [← hy]
   exact h.pred_cell i hi1)
  rw [hy] at HX
  have HPS:Hid (∀ (w:World) (gp cp:Nat),Mk w0 w g M va vf (.slice (some ⟨gp,0,none⟩) s1.ob.preds.length cp) vc vq s1→Mk w0 (w.setCell ⟨gp,i * 3+2,none⟩ (.int .i64 (s1.ob.code.length:Int))) g M va vf (.slice (some ⟨gp,0,none⟩) s1.ob.preds.length cp) vc vq (entAt s1 i (s1.ob.preds[i].1,s1.ob.preds[i].2.1) (s1.ob.code.length:Int))∧gp<w.heap.size∧(w.setCell ⟨gp,i * 3+2,none⟩ (.int .i64 (s1.ob.code.length:Int))).cell? ⟨gp,i * 3+2,none⟩=some (.int .i64 (s1.ob.code.length:Int))):=hD (fun w gp cp h=>by
   have h4:=h.pred_set i hi1 (s1.ob.code.length:Int)
   refine⟨h4,(own_ge h.rp (b:=gp) rfl).2,?_⟩
   have e:(entAt s1 i (s1.ob.preds[i].1,s1.ob.preds[i].2.1) (s1.ob.code.length:Int)).ob.preds.length=s1.ob.preds.length:=by simp [entAt]
   have h4':Mk w0 (w.setCell ⟨gp,i * 3+2,none⟩ (.int .i64 (s1.ob.code.length:Int))) g M va vf (.slice (some ⟨gp,0,none⟩) (entAt s1 i (s1.ob.preds[i].1,s1.ob.preds[i].2.1) (s1.ob.code.length:Int)).ob.preds.length cp) vc vq (entAt s1 i (s1.ob.preds[i].1,s1.ob.preds[i].2.1) (s1.ob.code.length:Int)):=by
    rw [e]
    exact h4
   have h5:=h4'.pred_cell i (by simpa [entAt] using hi1)
   simpa [entAt] using h5.1)
  have hs2c:(entAt s1 i (s1.ob.preds[i].1,s1.ob.preds[i].2.1) (s1.ob.code.length:Int)).pts=s1.pts:=rfl
  have hs2d:(entAt s1 i (s1.ob.preds[i].1,s1.ob.preds[i].2.1) (s1.ob.code.length:Int)).ob.code.length=s1.ob.code.length:=rfl
  rw [← hs2c] at HX
  rw [← hs2c] at hp1
  generalize entAt s1 i (s1.ob.preds[i].1,s1.ob.preds[i].2.1) (s1.ob.code.length:Int)=s2 at HX HPS hs2c hs2d hp1
  have HI:=hD hi1
  have hl2:=hl.2.2.2.1
  have hl3:=hl.2.2.2.2
  rw [← hc1] at hl2
  rw [← hp1] at hl3
  have hip:(i:Int)<(s1.ob.preds.length:Int):=by omega
  clear h hr hi h1 h2 h3 hs1 hc1 hp1 hl hy hi1 hs2c hs2d
  by_cases he:y=65535
  case neg=>
   have HX2:Hid (r=.error 11):=hD (by rw [HX.out,if_pos he])
   have e1:(y != 65535)=true:=by rw [bne_iff_ne];exact he
   clear he
   go_enter Tryz.func37,Tryz.ntmps37
   go_wp2_with (first
    | (go_at_call 74;refine(HR.out _ (HK.out.laid HP.out)).mono ?_;rintro e w2 ⟨rfl,hb2⟩;have HK2:=hD ((HK.out.up hb2).alloc (.cells #[.string f,.int .i64 m] 61));have X2:=hD (Box.new w2 61 #[.string f,.int .i64 m]);have d0:=X2.out.cell 0;have d1:=X2.out.cell 1;clear hb2)
    | (go_at_call 75;refine(HS.out _ HK2.out).mono ?_;rintro e w3 ⟨vp',rfl,hk3,hf3⟩;obtain⟨gp,cp,hvp⟩:=zw8 hk3.rp (Nat.lt_of_le_of_lt (Nat.zero_le _) HI.out);obtain⟨c0,c1⟩:=HPC.out _ _ _ _ hvp hk3;subst hvp;have HK3:=hD hk3;have q2:=hk3.box.cell 2;clear hk3 hf3))
   go_ret
   exact ze2 HX2.out HK3.out.below
  case pos=>
   have HX2:Hid (r=.ok { s2 with pts:=s2.pts ++ [(n,(s1.ob.code.length:Int),true)] }):=hD (by rw [HX.out,if_neg (by simpa using he)])
   have e1:(y != 65535)=false:=by rw [bne_eq_false_iff_eq];exact he
   clear he
   go_enter Tryz.func37,Tryz.ntmps37
   go_upto_region 8 with(first
    | (go_at_call 74;refine(HR.out _ (HK.out.laid HP.out)).mono ?_;rintro e w2 ⟨rfl,hb2⟩;have HK2:=hD ((HK.out.up hb2).alloc (.cells #[.string f,.int .i64 m] 61));have X2:=hD (Box.new w2 61 #[.string f,.int .i64 m]);have d0:=X2.out.cell 0;have d1:=X2.out.cell 1;clear hb2)
    | (go_at_call 75;refine(HS.out _ HK2.out).mono ?_;rintro e w3 ⟨vp',rfl,hk3,hf3⟩;obtain⟨gp,cp,hvp⟩:=zw8 hk3.rp (Nat.lt_of_le_of_lt (Nat.zero_le _) HI.out);obtain⟨c0,c1⟩:=HPC.out _ _ _ _ hvp hk3;subst hvp;have HK3:=hD hk3;have q2:=hk3.box.cell 2;clear hk3 hf3))
   obtain⟨A4,c4,hvc,_⟩:=zl HK3.out.rc
   subst hvc
   have q3:=HK3.out.box.cell 3
   obtain⟨hk4,hgp,hcc⟩:=HPS.out _ _ _ HK3.out
   have HK4:=hD hk4
   have HP4:=hD hcc
   clear hk4 hcc
   go_upto_region 9 with(fail)
   obtain⟨w4,hw4⟩:∃ w4,w3.setCell ⟨gp,i * 3+2,none⟩ (.int .i64 (s1.ob.code.length:Int))=w4:=⟨_,rfl⟩
   rw [hw4] at HK4 HP4 ⊢
   clear HK3 q2 q3 c0 c1 hw4 HK2 X2 d0 d1
   obtain⟨A5,c5,hvq,_⟩:=zl HK4.out.rq
   subst hvq
   have q5:=HK4.out.box.cell 5
   have q5a:=fun oo=>(HK4.out.box.alloc oo).cell 5
   have p5:=HP4.out
   have p5a:=fun oo=>((za w4 oo).cell (p:=⟨gp,i * 3+2,none⟩) (World.block_lt_of_cell? w4 _ HP4.out)).trans HP4.out
   obtain⟨v6,w6,hr6,HA6⟩:=zp1 slPt (HK4.out.drewN 1).rq [.int .i64 n,.int .i64 (s1.ob.code.length:Int),.bool true] rfl (by intro u hu;simp only [List.mem_cons,List.not_mem_nil,or_false] at hu;rcases hu with rfl | rfl | rfl <;> rfl) (Nat.le_trans hl3 (by decide)) (HK4.out.drewN 1).below.size 77
   obtain⟨A6,c6,hv6⟩:=HA6.out.form
   subst hv6
   obtain⟨hT6,z0,z1⟩:=(HK4.out.drewN 1).putq HA6.out
   have HT6:=hD hT6
   have HR6:=hD hr6
   clear hr6 hT6 HA6
   go_region_law (refine zi HR6.out rfl _ _ rfl rfl rfl ?_)
   all_goals
    go_wp2
    go_ret
    exact zh5 HX2.out HT6.out
end Go.Proofs.YtlmbiafloiompaaGreatDoor

namespace Go.Proofs.YtlmbiafloiompaaGreatDoor
open Go
structure GoodT (o:Ob):Prop where
 atoms:∀ s ∈ o.atoms,nameOk s=true
 nda:o.atoms.Nodup
 funs:∀ f ∈ o.funs,nameOk f.1=true∧1≤f.2∧f.2≤8
 ndf:o.funs.Nodup
 preds:∀ p ∈ o.preds,nameOk p.1=true∧0≤p.2.1∧p.2.1≤8
 ndp:(o.preds.map called).Nodup
def Grown (o o':Ob):Prop:=o.atoms.length≤o'.atoms.length∧o.funs.length≤o'.funs.length∧o.preds.length≤o'.preds.length
theorem Grown.refl (o:Ob):Grown o o:=⟨Nat.le_refl _,Nat.le_refl _,Nat.le_refl _⟩
theorem Grown.trans {o o' o'':Ob} (h:Grown o o') (k:Grown o' o''):Grown o o'':=⟨Nat.le_trans h.1 k.1,Nat.le_trans h.2.1 k.2.1,Nat.le_trans h.2.2 k.2.2⟩
def goodArg (o:Ob) (op kind n:Int):Prop:=
 (kind=3→0≤n∧n<(o.atoms.length:Int))∧(kind=4→0≤n∧n<(o.funs.length:Int))∧(kind=7→0≤n∧n<(o.preds.length:Int))∧(kind=8→(0≤n∧n≤1023) ∨ (op=26∧n=65535))∧(kind≠3→kind≠4→kind≠7→kind≠8→mayB op kind n=true)
theorem goodArg.grow {o o':Ob} {op kind n:Int} (h:goodArg o op kind n) (hg:Grown o o'):goodArg o' op kind n:=by
 obtain⟨h1,h2,h3,h4,h5⟩:=h
 obtain⟨g1,g2,g3⟩:=hg
 exact⟨fun e=>by have:=h1 e;omega,fun e=>by have:=h2 e;omega,fun e=>by have:=h3 e;omega,h4,h5⟩
theorem zj7 {w:List UInt8} {g:Int} {f:ByteArray × Int} (h:funOf w g=some f):nameOk f.1=true∧g≤f.2∧0≤f.2∧f.2≤8:=by
 unfold funOf at h
 split at h
 ·cases h
 ·split at h
  ·cases h
  ·rename_i n hn
   split at h
   ·rename_i hc
    injection h with h
    subst h
    have:=zw11 hn
    exact⟨hc.2,hc.1,this.1,this.2⟩
   ·cases h
theorem zg15 {α:Type} [DecidableEq α] (l:List α) (x:α):(placeOf l x:Int)<((addTo l x).length:Int)∧(addTo l x).length≥l.length:=by
 by_cases h:x ∈ l
 ·rw [ze9 h]
  have:placeOf l x<l.length:=by
   unfold placeOf
   exact List.findIdx_lt_length_of_exists ⟨x,h,by simp⟩
  exact⟨by omega,Nat.le_refl _⟩
 ·rw [zr12 h,zs7 l x h]
  simp
  omega
theorem zs13 {α:Type} [DecidableEq α] {l:List α} {x y:α} (h:y ∈ addTo l x):y ∈ l ∨ y=x:=by
 unfold addTo at h
 split at h
 ·exact .inl h
 ·rcases List.mem_append.1 h with h | h
  ·exact .inl h
  ·exact .inr (List.mem_singleton.1 h)
theorem zd9 {α:Type} [DecidableEq α] {l:List α} (x:α) (h:l.Nodup):(addTo l x).Nodup:=by
 unfold addTo
 split
 ·exact h
 ·rename_i hx
  rw [List.nodup_append]
  exact⟨h,by simp,fun a ha b hb e=>by rw [List.mem_singleton.1 hb] at e;subst e;exact hx ha⟩
theorem zg6:∀ (x:ByteArray) (n:Int) (k:Nat) (l:List (ByteArray × Int × Int)),findFrom x n k l<0→(x,n) ∉ l.map called
 | x,n,k,[],_=>by simp
 | x,n,k,p :: l,h=>by
  unfold findFrom at h
  split at h
  ·omega
  ·rename_i hc
   have ih:=zg6 x n (k+1) l h
   rw [List.map_cons,List.mem_cons]
   rintro(e | e)
   ·unfold called at e
    injection e with e1 e2
    exact hc ⟨e1.symm,e2.symm⟩
   ·exact ih e
theorem zr6 {o:Ob} (h:GoodT o) {f:ByteArray × Int} (hf:nameOk f.1=true∧0≤f.2∧f.2≤8):GoodT (predStep o f).2∧0≤(predStep o f).1∧(predStep o f).1<((predStep o f).2.preds.length:Int)∧Grown o (predStep o f).2:=by
 unfold predStep
 split
 ·rename_i hx
  have hn:=zg6 f.1 f.2 0 o.preds hx
  refine⟨⟨h.atoms,h.nda,h.funs,h.ndf,fun p hp=>?_,?_⟩,by simp,by simp;omega,Nat.le_refl _,Nat.le_refl _,by simp⟩
  ·rcases List.mem_append.1 hp with hp | hp
   ·exact h.preds p hp
   ·rw [List.mem_singleton.1 hp]
    exact hf
  ·rw [List.map_append,List.nodup_append]
   refine⟨h.ndp,by simp,fun a ha b hb e=>?_⟩
   have hb:b=(f.1,f.2):=by simpa [called] using hb
   subst e
   subst hb
   exact hn ha
 ·rename_i hx
  obtain⟨i,hi,h1,_⟩:=zt5 f.1 f.2 0 o.preds (by omega)
  exact⟨h,by omega,by simp only;omega,Grown.refl o⟩
theorem zt16 {o o':Ob} (h:GoodT o) {op kind n:Int} {w:List UInt8} (hs:opStep op kind w o=some (n,o')) (hop:op=26→kind=8):GoodT o'∧goodArg o' op kind n∧Grown o o':=by
 unfold opStep at hs
 split at hs
 ·rename_i hk
  split at hs
  ·rename_i hn
   injection hs with hs
   injection hs with h1 h2
   subst h1 h2
   have hp:=zg15 o.atoms (bs w)
   refine⟨⟨fun s hs=>?_,zd9 _ h.nda,h.funs,h.ndf,h.preds,h.ndp⟩,⟨fun _=>⟨by simp,hp.1⟩,fun e=>by omega,fun e=>by omega,fun e=>by omega,fun e=>absurd hk e⟩,hp.2,Nat.le_refl _,Nat.le_refl _⟩
   rcases zs13 hs with hs | rfl
   ·exact h.atoms s hs
   ·exact hn
  ·cases hs
 ·split at hs
  ·rename_i hk3 hk
   cases hf:funOf w 1 with
   | none=>rw [hf] at hs;cases hs
   | some f=>
    rw [hf] at hs
    injection hs with hs
    injection hs with h1 h2
    subst h1 h2
    have hp:=zg15 o.funs f
    have hfn:=zj7 hf
    refine⟨⟨h.atoms,h.nda,fun g hg=>?_,zd9 _ h.ndf,h.preds,h.ndp⟩,⟨fun e=>by omega,fun _=>⟨by simp,hp.1⟩,fun e=>by omega,fun e=>by omega,fun _ e=>absurd hk e⟩,Nat.le_refl _,hp.2,Nat.le_refl _⟩
    rcases zs13 hg with hg | rfl
    ·exact h.funs g hg
    ·exact⟨hfn.1,hfn.2.1,hfn.2.2.2⟩
  ·split at hs
   ·rename_i hk3 hk4 hk
    cases hf:funOf w 0 with
    | none=>rw [hf] at hs;cases hs
    | some f=>
     rw [hf] at hs
     injection hs with hs
     have hs:predStep o f=(n,o'):=hs
     have hfn:=zj7 hf
     have hg:=zr6 h (f:=f) ⟨hfn.1,hfn.2.1,hfn.2.2.2⟩
     rw [hs] at hg
     exact⟨hg.1,⟨fun e=>by omega,fun e=>by omega,fun _=>⟨hg.2.1,hg.2.2.1⟩,fun e=>by omega,fun _ _ e=>absurd hk e⟩,hg.2.2.2⟩
   ·split at hs
    ·rename_i hk3 hk4 hk7 hk
     split at hs
     ·split at hs
      ·rename_i h26
       injection hs with hs
       injection hs with h1 h2
       subst h1 h2
       exact⟨h,⟨fun e=>by omega,fun e=>by omega,fun e=>by omega,fun _=>.inr ⟨h26,rfl⟩,fun _ _ _ e=>absurd hk e⟩,Grown.refl o⟩
      ·cases hs
     ·cases hf:labelOf w with
      | none=>rw [hf] at hs;cases hs
      | some m=>
       rw [hf] at hs
       injection hs with hs
       injection hs with h1 h2
       subst h1 h2
       have:=zl7 hf
       exact⟨h,⟨fun e=>by omega,fun e=>by omega,fun e=>by omega,fun _=>.inl this,fun _ _ _ e=>absurd hk e⟩,Grown.refl o⟩
    ·rename_i hk3 hk4 hk7 hk8
     cases hf:opdOf kind w with
     | none=>rw [hf] at hs;cases hs
     | some m=>
      rw [hf] at hs
      injection hs with hs
      injection hs with h1 h2
      subst h1 h2
      refine⟨h,⟨fun e=>absurd e hk3,fun e=>absurd e hk4,fun e=>absurd e hk7,fun e=>absurd e hk8,fun _ _ _ _=>?_⟩,Grown.refl o⟩
      unfold opdOf at hf
      split at hf
      ·cases hf
      ·split at hf
       ·rename_i hc
        injection hf with hf
        subst hf
        exact decide_eq_true (.inr ⟨hc.1,hc.2.1⟩)
       ·cases hf
theorem zl8 {op:Int}:∀ {ks:List Int} {ws:List (List UInt8)} {o o':Ob} {x:List Int},GoodT o→opsStep op ks ws o=some (x,o')→(op=26→∀ k ∈ ks,k=8)→GoodT o'∧Grown o o'∧x.length=ks.length∧∀ j,j<ks.length→goodArg o' op (ks.getD j 0) (x.getD j 0)
 | [],ws,o,o',x,h,hs,_=>by
  rw [opsStep] at hs
  injection hs with hs
  injection hs with h1 h2
  subst h1 h2
  exact⟨h,Grown.refl o,rfl,fun j hj=>absurd hj (by simp)⟩
 | k :: ks,ws,o,o',x,h,hs,hop=>by
  rw [opsStep] at hs
  cases h1:opStep op k (ws.headD []) o with
  | none=>rw [h1] at hs;cases hs
  | some r=>
   obtain⟨n,o1⟩:=r
   rw [h1] at hs
   obtain⟨a1,a2,a3⟩:=zt16 h h1 (fun e=>hop e k (by simp))
   cases h2:opsStep op ks ws.tail o1 with
   | none=>simp only [h2] at hs;cases hs
   | some r2=>
    obtain⟨y,o2⟩:=r2
    simp only [h2] at hs
    injection hs with hs
    injection hs with h3 h4
    have h3:n :: y=x:=h3
    have h4:o2=o':=h4
    subst h3 h4
    obtain⟨b1,b2,b3,b4⟩:=zl8 a1 h2 (fun e k hk=>hop e k (by simp [hk]))
    refine⟨b1,a3.trans b2,by simp [b3],fun j hj=>?_⟩
    cases j with
    | zero=>exact a2.grow b2
    | succ j=>simpa using b4 j (by simpa using hj)
def GoodI (o:Ob) (i:Ins):Prop:=
 0≤i.1∧i.1≤26∧(∀ j,j<(opsOf i.1).length→goodArg o i.1 ((opsOf i.1).getD j 0) ((argOf i).getD j 0))∧∀ j,(opsOf i.1).length≤j→j<4→(argOf i).getD j 0=0
theorem GoodI.grow {o o':Ob} {i:Ins} (h:GoodI o i) (hg:Grown o o'):GoodI o' i:=⟨h.1,h.2.1,fun j hj=>(h.2.2.1 j hj).grow hg,h.2.2.2⟩
structure GoodS (s:St):Prop where
 t:GoodT s.ob
 code:∀ i ∈ s.ob.code,GoodI s.ob i
 ents:∀ p ∈ s.ob.preds,p.2.2=65535 ∨ (0≤p.2.2∧∃ l,(l,p.2.2,true) ∈ s.pts)
 pts:(s.pts.filter (fun p=>!p.2.2)).map (fun p=>p.2.1)=(List.range s.ob.code.length).map (fun k:Nat=>(k:Int))
theorem GoodS.start:GoodS startSt:=
 ⟨⟨fun s h=>absurd h (by simp [startSt,emptyOb]),by simp [startSt,emptyOb],fun s h=>absurd h (by simp [startSt,emptyOb]),by simp [startSt,emptyOb],fun s h=>absurd h (by simp [startSt,emptyOb]),by simp [startSt,emptyOb]⟩,fun s h=>absurd h (by simp [startSt,emptyOb]),fun s h=>absurd h (by simp [startSt,emptyOb]),by simp [startSt,emptyOb]⟩
theorem zm8 (o:Ob) (f:ByteArray × Int):∀ p ∈ (predStep o f).2.preds,p ∈ o.preds ∨ p.2.2=65535:=by
 unfold predStep
 split
 ·intro p hp
  rcases List.mem_append.1 hp with hp | hp
  ·exact .inl hp
  ·rw [List.mem_singleton.1 hp];exact .inr rfl
 ·exact fun p hp=>.inl hp
theorem zw14 {op kind n:Int} {w:List UInt8} {o o':Ob} (h:opStep op kind w o=some (n,o')):∀ p ∈ o'.preds,p ∈ o.preds ∨ p.2.2=65535:=by
 unfold opStep at h
 split at h
 ·split at h
  ·injection h with h;injection h with _ h;subst h;exact fun p hp=>.inl hp
  ·cases h
 ·split at h
  ·cases hf:funOf w 1 with
   | none=>rw [hf] at h;cases h
   | some f=>rw [hf] at h;injection h with h;injection h with _ h;subst h;exact fun p hp=>.inl hp
  ·split at h
   ·cases hf:funOf w 0 with
    | none=>rw [hf] at h;cases h
    | some f=>
     rw [hf] at h
     injection h with h
     have h:predStep o f=(n,o'):=h
     have:=zm8 o f
     rw [h] at this
     exact this
   ·split at h
    ·split at h
     ·split at h
      ·injection h with h;injection h with _ h;subst h;exact fun p hp=>.inl hp
      ·cases h
     ·cases hf:labelOf w with
      | none=>rw [hf] at h;cases h
      | some m=>rw [hf] at h;injection h with h;injection h with _ h;subst h;exact fun p hp=>.inl hp
    ·cases hf:opdOf kind w with
     | none=>rw [hf] at h;cases h
     | some m=>rw [hf] at h;injection h with h;injection h with _ h;subst h;exact fun p hp=>.inl hp
theorem zq6 {op:Int}:∀ {ks:List Int} {ws:List (List UInt8)} {o o':Ob} {x:List Int},opsStep op ks ws o=some (x,o')→∀ p ∈ o'.preds,p ∈ o.preds ∨ p.2.2=65535
 | [],ws,o,o',x,h=>by
  rw [opsStep] at h
  injection h with h
  injection h with _ h
  subst h
  exact fun p hp=>.inl hp
 | k :: ks,ws,o,o',x,h=>by
  rw [opsStep] at h
  cases h1:opStep op k (ws.headD []) o with
  | none=>rw [h1] at h;cases h
  | some r=>
   obtain⟨n,o1⟩:=r
   rw [h1] at h
   cases h2:opsStep op ks ws.tail o1 with
   | none=>simp only [h2] at h;cases h
   | some r2=>
    obtain⟨y,o2⟩:=r2
    simp only [h2] at h
    injection h with h
    injection h with _ h
    have h:o2=o':=h
    subst h
    intro p hp
    rcases zq6 h2 p hp with h3 | h3
    ·exact zw14 h1 p h3
    ·exact .inr h3
theorem line_good {n:Int} {l:List UInt8} {s s':St} (h:lineStep n l s=.ok s') (hg:GoodS s) (hl:s.ob.atoms.length+s.ob.funs.length+s.ob.preds.length≤2700000):GoodS s':=by
 unfold lineStep at h
 split at h
 ·unfold predLine at h
  split at h
  ·cases h
  ·rename_i f hf
   split at h
   ·cases h
   ·injection h with h
    subst h
    have hfn:=zj7 hf
    have hpg:=zr6 hg.t (f:=f) ⟨hfn.1,hfn.2.1,hfn.2.2.2⟩
    have hpm:=zm8 s.ob f
    have hpc:=zx1 s.ob f
    obtain⟨i,hi,h1,h2,h3⟩:=ze10 s.ob f
    rw [h1]
    simp only [Int.toNat_natCast]
    have hcl:((predStep s.ob f).2.preds.set i (f.1,f.2,(s.ob.code.length:Int))).map called=(predStep s.ob f).2.preds.map called:=by
     rw [List.map_set]
     apply List.ext_getElem (by simp)
     intro j a b
     rw [List.getElem_set]
     split
     ·rename_i e
      subst e
      rw [List.getElem_map]
      unfold called
      rw [h2,h3]
     ·rfl
    refine⟨⟨hpg.1.atoms,hpg.1.nda,hpg.1.funs,hpg.1.ndf,fun p hp=>?_,?_⟩,fun j hj=>?_,fun p hp=>?_,?_⟩
    ·rcases List.mem_or_eq_of_mem_set hp with hp | rfl
     ·exact hpg.1.preds p hp
     ·exact⟨hfn.1,hfn.2.1,hfn.2.2.2⟩
    ·show((predStep s.ob f).2.preds.set i (f.1,f.2,(s.ob.code.length:Int))).map called |>.Nodup
     rw [hcl]
     exact hpg.1.ndp
    ·have hj:j ∈ s.ob.code:=by rw [← hpc];exact hj
     refine(hg.code j hj).grow ⟨hpg.2.2.2.1,hpg.2.2.2.2.1,?_⟩
     simp only [List.length_set]
     exact hpg.2.2.2.2.2
    ·rcases List.mem_or_eq_of_mem_set hp with hp | rfl
     ·rcases hpm p hp with hp | hp
      ·rcases hg.ents p hp with h4 | ⟨h4,l2,h5⟩
       ·exact .inl h4
       ·exact .inr ⟨h4,l2,List.mem_append_left _ h5⟩
      ·exact .inl hp
     ·exact .inr ⟨by simp,n,by simp⟩
    ·simp only [List.filter_append,List.map_append,hpc]
     rw [hg.pts]
     simp
 ·split at h
  ·unfold labelLine at h
   split at h
   ·cases h
   ·split at h
    ·cases h
    ·injection h with h
     subst h
     exact⟨hg.t,hg.code,hg.ents,hg.pts⟩
  ·unfold instrLine at h
   split at h
   ·cases h
   ·rename_i hc
    split at h
    ·cases h
    ·rename_i x o' hs
     injection h with h
     subst h
     generalize hop:namedOf (bs ((splitW l).getD 0 []))=op at *
     have hfew:=zv1 op
     obtain⟨K,hK,hK2,_⟩:=zn18 (s:=bs ((splitW l).getD 0 [])) (by omega)
     obtain⟨a1,a2,a3,a4⟩:=zl8 hg.t hs (zv8 op)
     have hpm:=zq6 hs
     have hcd:=(zq7 hs (zv8 op) (by omega)).2.1
     have hT:GoodT { o' with code:=o'.code ++ [insOf op x] }:=⟨a1.atoms,a1.nda,a1.funs,a1.ndf,a1.preds,a1.ndp⟩
     refine⟨hT,fun j hj=>?_,fun p hp=>?_,?_⟩
     ·simp only [hcd] at hj
      rcases List.mem_append.1 hj with hj | hj
      ·exact(hg.code j hj).grow a2
      ·rw [List.mem_singleton.1 hj]
       refine⟨by show 0≤op;omega,by show op≤26;omega,fun q hq=>?_,fun q hq h4=>?_⟩
       ·have hq:q<(opsOf op).length:=hq
        rw [zp4 op x q (by omega)]
        exact a4 q hq
       ·have hq:(opsOf op).length≤q:=hq
        rw [zp4 op x q h4,List.getD_eq_getElem?_getD,List.getElem?_eq_none (by omega)]
        rfl
     ·rcases hpm p hp with hp | hp
      ·rcases hg.ents p hp with h4 | ⟨h4,l2,h5⟩
       ·exact .inl h4
       ·exact .inr ⟨h4,l2,List.mem_append_left _ h5⟩
      ·exact .inl hp
     ·simp only [List.filter_append,List.map_append,hcd]
      rw [hg.pts,List.length_append,List.length_singleton,List.range_succ,List.map_append]
      simp
theorem zq11:∀ (L:List (List UInt8)) (k:Nat) (s0 s:St),linesStep k L s0=.ok s→GoodS s0→StB s0→(s0.ob.atoms.length≤256∧s0.ob.funs.length≤256∧s0.ob.preds.length≤64∧s0.ob.code.length≤1024)→GoodS s∧StB s∧(s.ob.atoms.length≤256∧s.ob.funs.length≤256∧s.ob.preds.length≤64∧s.ob.code.length≤1024)
 | [],k,s0,s,h,hg,hb,hl=>by
  rw [linesStep] at h
  injection h with h
  subst h
  exact⟨hg,hb,hl⟩
 | l :: L,k,s0,s,h,hg,hb,hl=>by
  rw [linesStep] at h
  cases h1:lineStep (k:Int) l s0 with
  | error e=>rw [h1] at h;cases h
  | ok s1=>
   rw [h1] at h
   simp only at h
   cases h2:bigO s1.ob with
   | true=>rw [h2,if_pos rfl] at h;cases h
   | false=>
    rw [h2,if_neg (by decide)] at h
    exact zq11 L (k+1) s1 s h (line_good h1 hg (by omega)) (line_bd h1 hb (by omega)).1 (big_bd h2)
theorem zj4 {labs:List (Int × Int)} {m:Nat}:∀ {ks xs l:List Int},placeArgs labs m ks xs=some l→ks.length≤xs.length→l.length=xs.length∧∀ j,(j<ks.length∧ks.getD j 0=8∧xs.getD j 0≠65535→∃ x,labOf labs (xs.getD j 0)=some x∧x<(m:Int)∧l.getD j 0=x)∧(¬ (j<ks.length∧ks.getD j 0=8∧xs.getD j 0≠65535)→l.getD j 0=xs.getD j 0)
 | [],xs,l,h,_=>by
  rw [placeArgs] at h
  injection h with h
  subst h
  exact⟨rfl,fun j=>⟨fun hj=>absurd hj.1 (by simp),fun _=>rfl⟩⟩
 | k :: ks,[],l,h,hl=>by simp at hl
 | k :: ks,x :: xs,l,h,hl=>by
  rw [placeArgs] at h
  by_cases hc:k=8∧(x :: xs).headD 0≠65535
  ·rw [if_pos hc] at h
   replace hc:k=8∧x≠65535:=hc
   simp only [List.headD_cons,List.tail_cons] at h
   cases hy:labOf labs x with
   | none=>rw [hy] at h;cases h
   | some y=>
    rw [hy] at h
    simp only at h
    by_cases hm:(m:Int)≤y
    ·rw [if_pos hm] at h;cases h
    ·rw [if_neg hm] at h
     cases h2:placeArgs labs m ks xs with
     | none=>rw [h2] at h;cases h
     | some l2=>
      rw [h2] at h
      injection h with h
      subst h
      obtain⟨g1,g2⟩:=zj4 h2 (by simpa using hl)
      refine⟨by simp [g1],fun j=>?_⟩
      cases j with
      | zero=>exact⟨fun _=>⟨y,hy,by omega,rfl⟩,fun hn=>absurd ⟨by simp,hc.1,hc.2⟩ hn⟩
      | succ j=>
       have:=g2 j
       simpa using this
  ·rw [if_neg hc] at h
   replace hc:¬ (k=8∧x≠65535):=hc
   simp only [List.headD_cons,List.tail_cons] at h
   cases h2:placeArgs labs m ks xs with
   | none=>rw [h2] at h;cases h
   | some l2=>
    rw [h2] at h
    injection h with h
    subst h
    obtain⟨g1,g2⟩:=zj4 h2 (by simpa using hl)
    refine⟨by simp [g1],fun j=>?_⟩
    cases j with
    | zero=>exact⟨fun hy=>absurd ⟨hy.2.1,hy.2.2⟩ hc,fun _=>rfl⟩
    | succ j=>
     have:=g2 j
     simpa using this
theorem labOf_mem {labs:List (Int × Int)} {k x:Int} (h:labOf labs k=some x):∃ q ∈ labs,q.2=x:=by
 unfold labOf at h
 cases hf:labs.find? (fun p=>p.1 == k) with
 | none=>rw [hf] at h;cases h
 | some q=>
  rw [hf] at h
  injection h with h
  exact⟨q,List.mem_of_find?_eq_some hf,h⟩
theorem placed_ok {o:Ob} {labs:List (Int × Int)} {m:Nat} {i j:Ins} (hi:GoodI o i) (hl:o.atoms.length≤256∧o.funs.length≤256∧o.preds.length≤64) (hm:m≤1024) (hlab:∀ q ∈ labs,0≤q.2) (h:placeIns labs m i=some j):insErr o.atoms.length o.funs.length o.preds.length m j=0:=by
 unfold placeIns at h
 cases h2:placeArgs labs m (opsOf i.1) (argOf i) with
 | none=>rw [h2] at h;cases h
 | some l=>
  rw [h2] at h
  injection h with h
  subst h
  obtain⟨i1,i2,i3,i4⟩:=hi
  have hfew:=zv1 i.1
  obtain⟨g1,g2⟩:=zj4 h2 (by rw [zh9];exact hfew)
  have hget:∀ q,q<4→(argOf (insOf i.1 l)).getD q 0=l.getD q 0:=fun q hq=>zp4 _ _ q hq
  have hboth:∀ q,q<(opsOf i.1).length→mayB i.1 ((opsOf i.1).getD q 0) (l.getD q 0)=true∧thereB o.atoms.length o.funs.length o.preds.length m ((opsOf i.1).getD q 0) (l.getD q 0)=true:=fun q hq=>by
   obtain⟨a3,a4,a7,a8,ap⟩:=i3 q hq
   have gq:=g2 q
   generalize (opsOf i.1).getD q 0=kd at *
   generalize (argOf i).getD q 0=n at *
   generalize l.getD q 0=z at *
   by_cases h8:kd=8
   ·subst h8
    have lo:lowOf 8=0:=by decide
    have hi:highOf 8=1023:=by decide
    by_cases hn:n=65535
    ·have hz:z=65535:=by rw [gq.2 (fun h=>h.2.2 hn),hn]
     have h26:i.1=26:=by
      rcases a8 rfl with h | h
      ·omega
      ·exact h.1
     exact⟨decide_eq_true (.inl ⟨h26,hz⟩),by simp [thereB,hz]⟩
    ·obtain⟨x,hx,hxm,hz⟩:=gq.1 ⟨hq,rfl,hn⟩
     obtain⟨p,hp,hpx⟩:=labOf_mem hx
     have h0:=hlab p hp
     refine⟨decide_eq_true (.inr ⟨by omega,by omega⟩),?_⟩
     simp only [thereB]
     exact decide_eq_true (.inr ⟨by omega,by omega⟩)
   ·have hz:z=n:=gq.2 (fun h=>h8 h.2.1)
    subst hz
    by_cases h3:kd=3
    ·subst h3
     have lo:lowOf 3=0:=by decide
     have hi:highOf 3=255:=by decide
     have:=a3 rfl
     refine⟨decide_eq_true (.inr ⟨by omega,by omega⟩),?_⟩
     simp only [thereB]
     exact decide_eq_true (by omega)
    ·by_cases h4:kd=4
     ·subst h4
      have lo:lowOf 4=0:=by decide
      have hi:highOf 4=255:=by decide
      have:=a4 rfl
      refine⟨decide_eq_true (.inr ⟨by omega,by omega⟩),?_⟩
      simp only [thereB]
      exact decide_eq_true (by omega)
     ·by_cases h7:kd=7
      ·subst h7
       have lo:lowOf 7=0:=by decide
       have hi:highOf 7=63:=by decide
       have:=a7 rfl
       refine⟨decide_eq_true (.inr ⟨by omega,by omega⟩),?_⟩
       simp only [thereB]
       exact decide_eq_true (by omega)
      ·exact⟨ap h3 h4 h7 h8,by simp [thereB,h3,h4,h7,h8]⟩
  have hright:rightB i.1 (argOf (insOf i.1 l))=true:=by
   rw [rightB,Bool.and_eq_true,List.all_eq_true]
   refine⟨decide_eq_true ⟨i1,i2⟩,fun q hq=>?_⟩
   have hq4:q<4:=List.mem_range.1 hq
   rw [hget q hq4]
   by_cases hql:q<(opsOf i.1).length
   ·exact(hboth q hql).1
   ·have e1:(opsOf i.1).getD q 0=0:=by rw [List.getD_eq_getElem?_getD,List.getElem?_eq_none (by omega)];rfl
    have e2:l.getD q 0=0:=by rw [(g2 q).2 (fun h=>hql h.1)];exact i4 q (by omega) hq4
    have lo:lowOf 0=0:=rfl
    have hi:highOf 0=0:=rfl
    rw [e1,e2]
    exact decide_eq_true (.inr ⟨by omega,by omega⟩)
  unfold insErr
  have e0:(insOf i.1 l).1=i.1:=rfl
  rw [e0,if_neg (by omega),if_neg (by rw [hright];decide),if_pos]
  rw [List.all_eq_true]
  intro q hq
  have hq:=List.mem_range.1 hq
  rw [hget q (by omega)]
  exact(hboth q hq).2
structure SetTo (s:St) (k:Nat) (o:Ob):Prop where
 atoms:o.atoms=s.ob.atoms
 funs:o.funs=s.ob.funs
 preds:o.preds=s.ob.preds
 len:o.code.length=s.ob.code.length
 ok:∀ j,j<k→insErr s.ob.atoms.length s.ob.funs.length s.ob.preds.length s.ob.code.length (o.code.getD j (0,0,0,0,0))=0
 rest:∀ j,k≤j→o.code.getD j (0,0,0,0,0)=s.ob.code.getD j (0,0,0,0,0)
theorem za17 {s:St} (hc:∀ i ∈ s.ob.code,GoodI s.ob i) (hl:s.ob.atoms.length≤256∧s.ob.funs.length≤256∧s.ob.preds.length≤64∧s.ob.code.length≤1024) (hlab:∀ q ∈ s.labs,0≤q.2) :
  ∀ (ps:List (Int × Int × Bool)) (k:Nat) (o o':Ob),ptsStep s.labs ps o=.ok o'→k≤s.ob.code.length→(ps.filter (fun p=>!p.2.2)).map (fun p=>p.2.1)=(List.range' k (s.ob.code.length - k)).map (fun k:Nat=>(k:Int))→SetTo s k o →
  SetTo s s.ob.code.length o'∧∀ p ∈ ps,p.2.2=true→p.2.1<(s.ob.code.length:Int)∧(s.ob.preds.filter fun q=>q.2.2 == p.2.1).length≤1
 | [],k,o,o',h,hk,hr,hs=>by
  rw [ptsStep] at h
  injection h with h
  subst h
  have hn:s.ob.code.length - k=0:=by
   have:=congrArg List.length hr
   simpa using this.symm
  have hk:k=s.ob.code.length:=by omega
  rw [← hk] at *
  exact⟨hk ▸ hs,fun p hp=>absurd hp (by simp)⟩
 | p :: ps,k,o,o',h,hk,hr,hs=>by
  rw [ptsStep] at h
  cases h1:ptStep s.labs o p with
  | error e=>rw [h1] at h;cases h
  | ok o1=>
   rw [h1] at h
   simp only at h
   unfold ptStep at h1
   cases hb:p.2.2 with
   | true=>
    rw [if_pos hb] at h1
    by_cases hx:(o.code.length:Int)≤p.2.1 ∨ 1<(o.preds.filter fun q=>q.2.2 == p.2.1).length
    ·rw [if_pos hx] at h1;cases h1
    ·rw [if_neg hx] at h1
     injection h1 with h1
     subst h1
     rw [hs.len,hs.preds] at hx
     rw [List.filter_cons_of_neg (by simp [hb])] at hr
     obtain⟨g1,g2⟩:=za17 hc hl hlab ps k o o' h hk hr hs
     refine⟨g1,fun q hq hqt=>?_⟩
     rcases List.mem_cons.1 hq with rfl | hq
     ·omega
     ·exact g2 q hq hqt
   | false=>
    rw [if_neg (by rw [hb];decide)] at h1
    rw [List.filter_cons_of_pos (by simp [hb]),List.map_cons] at hr
    have hkn:k<s.ob.code.length:=by
     have:=congrArg List.length hr
     simp at this
     omega
    obtain⟨m,hm⟩:∃ m,s.ob.code.length - k=m+1:=⟨s.ob.code.length - k - 1,by omega⟩
    rw [hm,List.range'_succ,List.map_cons] at hr
    injection hr with hr1 hr2
    have hm':m=s.ob.code.length - (k+1):=by omega
    rw [hm'] at hr2
    have hkk:p.2.1.toNat=k:=by omega
    rw [hkk,hs.len,hs.rest k (Nat.le_refl _)] at h1
    cases hp:placeIns s.labs s.ob.code.length (s.ob.code.getD k (0,0,0,0,0)) with
    | none=>rw [hp] at h1;cases h1
    | some i=>
     rw [hp] at h1
     injection h1 with h1
     subst h1
     have hmem:s.ob.code.getD k (0,0,0,0,0) ∈ s.ob.code:=by
      rw [List.getD_eq_getElem?_getD,List.getElem?_eq_getElem hkn]
      exact List.getElem_mem hkn
     have hok:=placed_ok (hc _ hmem) ⟨hl.1,hl.2.1,hl.2.2.1⟩ hl.2.2.2 hlab hp
     have hs':SetTo s (k+1) { o with code:=o.code.set k i }:=by
      refine⟨hs.atoms,hs.funs,hs.preds,by simp [hs.len],fun j hj=>?_,fun j hj=>?_⟩
      ·by_cases e:j=k
       ·subst e
        simp only [List.getD_eq_getElem?_getD]
        rw [List.getElem?_set_self (by rw [hs.len];exact hkn)]
        exact hok
       ·have:=hs.ok j (by omega)
        simp only [List.getD_eq_getElem?_getD] at this ⊢
        rw [List.getElem?_set_ne (by omega)]
        exact this
      ·have:=hs.rest j (by omega)
       simp only [List.getD_eq_getElem?_getD] at this ⊢
       rw [List.getElem?_set_ne (by omega)]
       exact this
     obtain⟨g1,g2⟩:=za17 hc hl hlab ps (k+1) _ o' h hkn hr2 hs'
     refine⟨g1,fun q hq hqt=>?_⟩
     rcases List.mem_cons.1 hq with rfl | hq
     ·rw [hb] at hqt;cases hqt
     ·exact g2 q hq hqt
theorem ze14:∀ l:List (ByteArray × Int × Int),(∀ p ∈ l,p.2.2≠65535→(l.filter (fun q=>q.2.2 == p.2.2)).length≤1)→((l.map (·.2.2)).filter (fun e=>decide (e≠65535))).Nodup
 | [],_=>by simp
 | p :: l,h=>by
  have ht:=ze14 l (fun q hq hne=>by
   have:=h q (List.mem_cons_of_mem _ hq) hne
   rw [List.filter_cons] at this
   split at this
   ·simp only [List.length_cons] at this;omega
   ·exact this)
  rw [List.map_cons]
  by_cases e:p.2.2=65535
  ·rw [List.filter_cons_of_neg (by simp [e])]
   exact ht
  ·rw [List.filter_cons_of_pos (by simp [e]),List.nodup_cons]
   refine⟨fun hm=>?_,ht⟩
   obtain⟨q,hq,he⟩:=List.mem_map.1 (List.mem_filter.1 hm).1
   have:=h p List.mem_cons_self e
   rw [List.filter_cons_of_pos (by simp),List.length_cons] at this
   have hq':q ∈ l.filter (fun q=>q.2.2 == p.2.2):=List.mem_filter.2 ⟨hq,by simpa using he⟩
   have:=List.length_pos_of_mem hq'
   omega
theorem code_ok {a f p c:Nat}:∀ l:List Ins,(∀ i ∈ l,insErr a f p c i=0)→codeErr a f p c l=0
 | [],_=>rfl
 | i :: l,h=>by
  rw [codeErr,if_pos (h i List.mem_cons_self)]
  exact code_ok l fun j hj=>h j (List.mem_cons_of_mem _ hj)
theorem names_ok {o:Ob} (h:GoodT o):namesOk o=true:=by
 unfold namesOk
 rw [Bool.and_eq_true,Bool.and_eq_true,List.all_eq_true,List.all_eq_true,List.all_eq_true]
 refine⟨⟨h.atoms,fun f hf=>?_⟩,fun f hf=>?_⟩
 ·have:=h.funs f hf
  simp [funOk,this.1,this.2.1,this.2.2]
 ·obtain⟨p,hp,rfl⟩:=List.mem_map.1 hf
  have:=h.preds p hp
  simp [funOk,called,this.1,this.2.1,this.2.2]
theorem dup_ok {o:Ob} (h:GoodT o):dupB o=false:=by
 simp [dupB,twiceB,h.nda,h.ndf,h.ndp]
theorem asm_check (ls:List (List UInt8)):checkOf (asmOf ls).1=0:=by
 unfold asmOf
 cases h1:linesStep 0 ls startSt with
 | error e=>obtain⟨e,n⟩:=e;exact rfl
 | ok s=>
  simp only
  cases h2:ptsStep s.labs s.pts s.ob with
  | error e=>obtain⟨e,n⟩:=e;exact rfl
  | ok o=>
   simp only
   obtain⟨hg,hb,hl⟩:=zq11 ls 0 startSt s h1 GoodS.start StB.start (by simp [startSt,emptyOb])
   obtain⟨g1,g2⟩:=za17 hg.code hl hb.labs s.pts 0 s.ob o h2 (by omega) (by rw [hg.pts,List.range_eq_range',Nat.sub_zero]) ⟨rfl,rfl,rfl,rfl,fun j hj=>absurd hj (by omega),fun j _=>rfl⟩
   have hT:GoodT o:=⟨by rw [g1.atoms];exact hg.t.atoms,by rw [g1.atoms];exact hg.t.nda,by rw [g1.funs];exact hg.t.funs,by rw [g1.funs];exact hg.t.ndf,by rw [g1.preds];exact hg.t.preds,by rw [g1.preds];exact hg.t.ndp⟩
   have hents:entsOk o.code.length (o.preds.map (·.2.2))=true:=by
    unfold entsOk
    rw [Bool.and_eq_true,List.all_eq_true,g1.preds,g1.len]
    refine⟨fun e he=>?_,decide_eq_true (ze14 _ fun p hp hne=>?_)⟩
    ·obtain⟨p,hp,rfl⟩:=List.mem_map.1 he
     rcases hg.ents p hp with h | ⟨h0,l,hm⟩
     ·exact decide_eq_true (.inl h)
     ·exact decide_eq_true (.inr ⟨h0,(g2 _ hm rfl).1⟩)
    ·rcases hg.ents p hp with h | ⟨h0,l,hm⟩
     ·exact absurd h hne
     ·exact(g2 _ hm rfl).2
   have hbig:bigB o.atoms.length o.funs.length o.preds.length o.code.length=false:=by
    rw [g1.atoms,g1.funs,g1.preds,g1.len]
    exact decide_eq_false (by omega)
   unfold checkOf
   rw [hbig,if_neg (by decide),names_ok hT,if_neg (by decide),dup_ok hT,if_neg (by decide),hents,if_neg (by decide)]
   refine code_ok _ fun i hi=>?_
   obtain⟨j,hj,rfl⟩:=List.mem_iff_getElem.1 hi
   have:=g1.ok j (by rw [← g1.len];exact hj)
   rw [List.getD_eq_getElem?_getD,List.getElem?_eq_getElem hj] at this
   rw [g1.atoms,g1.funs,g1.preds,g1.len]
   exact this
end Go.Proofs.YtlmbiafloiompaaGreatDoor

namespace Go.Proofs.YtlmbiafloiompaaGreatDoor
open Go Go.RowKit
set_option maxRecDepth 100000
theorem wf_okV {o:Ob} (h:checkOf o=0):ObWf o:=by
 have hk:=ok_of h
 have b:∀ s:ByteArray,nameOk s=true→s.size≤maxLen:=fun s hs=>by
  have:=(name_size hs).2
  unfold maxLen
  omega
 exact⟨fun s hs=>b s (hk.atoms s hs),fun f hf=>b f.1 (hk.funs f hf).1,fun p hp=>b p.1 (hk.preds p hp).1,by have:=hk.la;omega,by have:=hk.lf;omega,by have:=hk.lp;omega,by have:=hk.lc;omega⟩
theorem asm_wfV (ls:List (List UInt8)):ObWf (asmOf ls).1:=wf_okV (asm_check ls)
theorem second_x {w:World} {A:Option Addr} {k:Nat} {l:List VSt} (hx:l.map (fun s=>(s.x,s.y.length))=[(1,16),(9,16)]) (h:CellsAt w (.slice A l.length k) l.length (l.flatMap stSs)) :
  l.length=2∧∃ b off,A=some ⟨b,off,none⟩∧b<w.heap.size∧w.cell? ⟨b,off+21,none⟩=some (.int .u32 9):=by
 have hn:l.length=2:=by have:=congrArg List.length hx;simpa using this
 match l,hn,hx,h with
 | [s,t],_,hx,h=>
  simp only [List.map_cons,List.map_nil,List.cons.injEq,Prod.mk.injEq,and_true] at hx
  refine⟨rfl,?_⟩
  have hl:(stSs s).length=21:=by rw [stSs,Array.length_toList];exact zh ⟨hx.1.2,by omega⟩
  rcases h with⟨h1,_,_⟩ | ⟨b,off,c,he,hb,hc⟩
  ·simp at h1
  ·cases he
   refine⟨b,off,rfl,hb,?_⟩
   refine hc 21 _ ?_
   simp only [List.flatMap_cons,List.flatMap_nil,List.append_nil]
   rw [List.getElem?_append_right (by omega),hl,Nat.sub_self,stSs,Array.getElem?_toList,stA_x,hx.2.1]
   rfl
set_option maxHeartbeats 32000000 in
theorem zy3 {B:Nat} (w:World) (hp:LaidC B w) :
  Calls Tryz.prog 6 #[] w fun e w'=>e=.returned (.bool true)∧Below w.heap.size w w':=by
 have HC:=hD (fun ls hs hm v w hp hv=>zz16 zp20 ls hs hm v (B:=B) w hp hv)
 have HK:=hD (fun o va vf vp vc hw w hn hv=>zm9 sort_ok zx18 o hw (va:=va) (vf:=vf) (vp:=vp) (vc:=vc) w hn hv)
 have hbA:=za w (.cells #[.string ⟨#[112,114,101,100,32,112,47,49]⟩,.string ⟨#[103,101,116,118,97,114,32,88,51,32,88,48]⟩,.string ⟨#[112,114,111,99,101,101,100]⟩] 9)
 have HBA:=hD hbA
 have hxA:=Box.new w 9 #[.string ⟨#[112,114,101,100,32,112,47,49]⟩,.string ⟨#[103,101,116,118,97,114,32,88,51,32,88,48]⟩,.string ⟨#[112,114,111,99,101,101,100]⟩]
 have HAA:Hid (AtomsAt (w.alloc (.cells #[.string ⟨#[112,114,101,100,32,112,47,49]⟩,.string ⟨#[103,101,116,118,97,114,32,88,51,32,88,48]⟩,.string ⟨#[112,114,111,99,101,101,100]⟩] 9)) (.slice (some ⟨w.heap.size,0,none⟩) 3 3) told11A):=hD (.inr ⟨_,0,3,rfl,hxA.lt,fun k u hk=>by rw [Nat.zero_add,hxA.cell k];simpa [told11A] using hk⟩)
 have HPA:=hD (hp.up hbA)
 have HP:=hD hp
 have HA:=hD zf21
 have HAS:=hD zg21
 have HBI:=hD zh21
 have HWA:=hD (asm_wfV (told11A.map (·.data.toList)))
 have HWB:=hD (asm_wfV (told11B.map (·.data.toList)))
 clear hbA hxA hp
 go_enter Tryz.func6,Tryz.ntmps6
 go_upto_region 2 with(go_at_call 12;refine(HC.out told11A (by decide) (by decide) _ _ HPA.out HAA.out).mono ?_;rintro e w2 ⟨va,vf,vp,vc,rfl,ho2,hb2⟩;have HO2:=hD ho2.at_;have HB2:=hD (HBA.out.trans (hb2.mono HBA.out.size));obtain⟨A1,c1,hva⟩:=ho2.at_.atoms.form;obtain⟨A2,c2,hvf⟩:=ho2.at_.funs.form;obtain⟨A3,c3,hvp⟩:=ho2.at_.preds.form;obtain⟨A4,c4,hvc⟩:=ho2.at_.code.form;subst hva hvf hvp hvc;clear ho2 hb2)
 obtain⟨oA,hoA⟩:∃ oA,(asmOf (told11A.map (·.data.toList))).1=oA:=⟨_,rfl⟩
 rw [hoA] at HO2 HA HAS HWA ⊢
 clear hoA
 have HX2:=hD (Box.new w2 35 #[.slice A1 oA.atoms.length c1,.slice A2 oA.funs.length c2,.slice A3 oA.preds.length c3,.slice A4 oA.code.length c4])
 have HB3:=hD (HB2.out.alloc HB2.out.size (.cells #[.slice A1 oA.atoms.length c1,.slice A2 oA.funs.length c2,.slice A3 oA.preds.length c3,.slice A4 oA.code.length c4] 35))
 have HO3:=hD (HO2.out.below (za w2 (.cells #[.slice A1 oA.atoms.length c1,.slice A2 oA.funs.length c2,.slice A3 oA.preds.length c3,.slice A4 oA.code.length c4] 35)))
 obtain⟨w3,hw3⟩:∃ w3,w2.alloc (.cells #[.slice A1 oA.atoms.length c1,.slice A2 oA.funs.length c2,.slice A3 oA.preds.length c3,.slice A4 oA.code.length c4] 35)=w3:=⟨_,rfl⟩
 obtain⟨gA,hgA⟩:∃ gA,w2.heap.size=gA:=⟨_,rfl⟩
 rw [hw3] at HX2 HB3 HO3 ⊢
 rw [hgA] at HX2 ⊢
 clear hw3 hgA HO2 HB2 HPA HAA HBA
 have hbB:=za w3 (.cells #[.string ⟨#[112,114,101,100,32,112,47,49]⟩,.string ⟨#[103,101,116,118,97,108,32,88,51,32,88,48]⟩,.string ⟨#[112,114,111,99,101,101,100]⟩] 9)
 have hxB:=Box.new w3 9 #[.string ⟨#[112,114,101,100,32,112,47,49]⟩,.string ⟨#[103,101,116,118,97,108,32,88,51,32,88,48]⟩,.string ⟨#[112,114,111,99,101,101,100]⟩]
 have HAB:Hid (AtomsAt (w3.alloc (.cells #[.string ⟨#[112,114,101,100,32,112,47,49]⟩,.string ⟨#[103,101,116,118,97,108,32,88,51,32,88,48]⟩,.string ⟨#[112,114,111,99,101,101,100]⟩] 9)) (.slice (some ⟨w3.heap.size,0,none⟩) 3 3) told11B):=hD (.inr ⟨_,0,3,rfl,hxB.lt,fun k u hk=>by rw [Nat.zero_add,hxB.cell k];simpa [told11B] using hk⟩)
 have HBB:=hD hbB
 have HPB:=hD ((HP.out.up HB3.out).up hbB)
 clear hbB hxB
 go_upto_region 3 with(go_at_call 12;refine(HC.out told11B (by decide) (by decide) _ _ HPB.out HAB.out).mono ?_;rintro e w4 ⟨va,vf,vp,vc,rfl,ho4,hb4⟩;have HO4:=hD ho4.at_;have HB4:=hD (HBB.out.trans (hb4.mono HBB.out.size));obtain⟨B1,d1,hva⟩:=ho4.at_.atoms.form;obtain⟨B2,d2,hvf⟩:=ho4.at_.funs.form;obtain⟨B3,d3,hvp⟩:=ho4.at_.preds.form;obtain⟨B4,d4,hvc⟩:=ho4.at_.code.form;subst hva hvf hvp hvc;clear ho4 hb4)
 obtain⟨oB,hoB⟩:∃ oB,(asmOf (told11B.map (·.data.toList))).1=oB:=⟨_,rfl⟩
 rw [hoB] at HO4 HBI HWB ⊢
 clear hoB
 have HX4:=hD (Box.new w4 35 #[.slice B1 oB.atoms.length d1,.slice B2 oB.funs.length d2,.slice B3 oB.preds.length d3,.slice B4 oB.code.length d4])
 have HB5:=hD (HB4.out.alloc HB4.out.size (.cells #[.slice B1 oB.atoms.length d1,.slice B2 oB.funs.length d2,.slice B3 oB.preds.length d3,.slice B4 oB.code.length d4] 35))
 have HO5:=hD (HO4.out.below (za w4 (.cells #[.slice B1 oB.atoms.length d1,.slice B2 oB.funs.length d2,.slice B3 oB.preds.length d3,.slice B4 oB.code.length d4] 35)))
 obtain⟨w5,hw5⟩:∃ w5,w4.alloc (.cells #[.slice B1 oB.atoms.length d1,.slice B2 oB.funs.length d2,.slice B3 oB.preds.length d3,.slice B4 oB.code.length d4] 35)=w5:=⟨_,rfl⟩
 obtain⟨gB,hgB⟩:∃ gB,w4.heap.size=gB:=⟨_,rfl⟩
 rw [hw5] at HX4 HB5 HO5 ⊢
 rw [hgB] at HX4 ⊢
 clear hw5 hgB HO4 HB4 HPB HAB HBB
 have HX5:=hD (HX2.out.below HB5.out HX2.out.lt)
 have HOA5:=hD (HO3.out.below HB5.out)
 have HBw:=hD (HB3.out.trans (HB5.out.mono HB3.out.size))
 have HP5:=hD (HP.out.up HBw.out)
 clear HX2 HO3 HB3 HB5 HC
 have q0:=HX5.out.cell 0
 have q1:=HX5.out.cell 1
 have q2:=HX5.out.cell 2
 have q3:=HX5.out.cell 3
 have HKA:=hD (HK.out oA _ _ _ _ HWA.out w5 HP5.out.names HOA5.out)
 unfold CheckW at HKA
 rw [HA.out.2] at HKA
 simp only at HKA
 go_upto_region 4 with(go_at_call 13;refine HKA.out.mono ?_;rintro e w6 ⟨vs,vn,rfl,hvs,hvn,hb6⟩;obtain⟨As,ks,hvsf⟩:=CellsAt.form hvs;obtain⟨An,kn,hvnf⟩:=CellsAt.form hvn;subst hvsf hvnf;have HVS:=hD hvs;have HB6:=hD hb6;clear hvs hvn hb6)
 clear HKA q0 q1 q2 q3
 obtain⟨hn2,b,off,rfl,hb,h9⟩:=second_x HAS.out HVS.out
 rw [hn2]
 have HB7:=hD (HB6.out.alloc HB6.out.size (.cells #[.slice (some ⟨b,off,none⟩) 2 ks,.slice An (verifyOf oA).2.1.length kn] 49))
 have HX7:=hD (Box.new w6 49 #[.slice (some ⟨b,off,none⟩) 2 ks,.slice An (verifyOf oA).2.1.length kn])
 have H97:Hid ((w6.alloc (.cells #[.slice (some ⟨b,off,none⟩) 2 ks,.slice An (verifyOf oA).2.1.length kn] 49)).cell? ⟨b,off+21,none⟩=some (.int .u32 9)):=hD (((za w6 (.cells #[.slice (some ⟨b,off,none⟩) 2 ks,.slice An (verifyOf oA).2.1.length kn] 49)).cell (p:=⟨b,off+21,none⟩) hb).trans h9)
 have HL7:Hid (b<(w6.alloc (.cells #[.slice (some ⟨b,off,none⟩) 2 ks,.slice An (verifyOf oA).2.1.length kn] 49)).heap.size):=hD (by rw [World.size_alloc];omega)
 obtain⟨w7,hw7⟩:∃ w7,w6.alloc (.cells #[.slice (some ⟨b,off,none⟩) 2 ks,.slice An (verifyOf oA).2.1.length kn] 49)=w7:=⟨_,rfl⟩
 obtain⟨gR,hgR⟩:∃ gR,w6.heap.size=gR:=⟨_,rfl⟩
 rw [hw7] at HB7 HX7 H97 HL7 ⊢
 rw [hgR] at HX7 ⊢
 have HX4b:=hD (HX4.out.below HB7.out HX4.out.lt)
 have HO7:=hD (HO5.out.below HB7.out)
 have HP7:=hD (HP5.out.up HB7.out)
 have HBw7:=hD (HBw.out.trans (HB7.out.mono HBw.out.size))
 have HKB:=hD (HK.out oB _ _ _ _ HWB.out w7 HP7.out.names HO7.out)
 unfold CheckW at HKB
 rw [HBI.out] at HKB
 simp only at HKB
 clear hw7 hgR hb h9 hn2 HVS HB6 HX5 HOA5 HX4 HO5 HB7 HBw HP5
 have q0:=HX4b.out.cell 0
 have q1:=HX4b.out.cell 1
 have q2:=HX4b.out.cell 2
 have q3:=HX4b.out.cell 3
 go_upto_region 5 with(go_at_call 13;refine HKB.out.mono ?_;rintro e w8 ⟨us,un,rfl,hus,hun,hb8⟩;obtain⟨Bs,ls,husf⟩:=CellsAt.form hus;obtain⟨Bn,ln,hunf⟩:=CellsAt.form hun;subst husf hunf;have HB8:=hD hb8;clear hus hun hb8)
 obtain⟨nb,hnb⟩:∃ nb,(verifyOf oB).1.length=nb:=⟨_,rfl⟩
 obtain⟨mb,hmb⟩:∃ mb,(verifyOf oB).2.1.length=mb:=⟨_,rfl⟩
 rw [hnb,hmb]
 clear hnb hmb q0 q1 q2 q3
 have HB9:=hD (HB8.out.alloc HB8.out.size (.cells #[.slice Bs nb ls,.slice Bn mb ln] 49))
 have HEND:=hD (HBw7.out.trans (HB9.out.mono HBw7.out.size))
 have HX9:=hD (HX7.out.below HB9.out HX7.out.lt)
 have q0:=HX9.out.cell 0
 have q9:=(HB9.out.cell (p:=⟨b,off+21,none⟩) HL7.out).trans H97.out
 go_wp2
 go_ret
 exact⟨rfl,HEND.out⟩
end Go.Proofs.YtlmbiafloiompaaGreatDoor
