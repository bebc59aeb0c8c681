/-
 Proved: 'Rows.VerifyObjectsCardSaid': for every object the statement VerifyObjects of the landed package verify returns true,and it reads as before. Conditions: the card's own (the listed variables start as the program's text lays them;the card ties them to the text;one table of package unicode/utf8 is held against the form's constant).
-/
import Derived.Test.YtlmbiafloiompaaGreatDoorJO07
import Derived.Test.YtlmbiafloiompaaGreatDoorJO09
import Derived.Test.YtlmbiafloiompaaGreatDoorJO50
import Derived.Test.YtlmbiafloiompaaGreatDoorJO52
import Derived.ChangeMaps5
set_option linter.unusedVariables false
set_option linter.unusedSimpArgs false
namespace Go.Proofs.YtlmbiafloiompaaGreatDoor
open Go.ChangeShapes Go.WideShapes Go.ChangeAt Go.RowKit Go.Deep
theorem readOb9:Tryz.prog.readableRec 27=true:=by kernel_rfl
theorem rowOb9:27<Tryz.prog.types.size:=of_decide_eq_true (by kernel_rfl)
theorem readStrs9:Tryz.prog.readableRec 22=true:=by kernel_rfl
theorem rowStrs9:22<Tryz.prog.types.size:=of_decide_eq_true (by kernel_rfl)
set_option maxRecDepth 100000 in
theorem zy4 (H:Type) (enc:TypeId × Value→H) (W:World) (base:Nat) (args:Array Value) (ds gs:List (DataW H)) (before:List MemPlace)
  (hval:∀ (j:Nat) t v,Tryz.f3.params[j]?=some t→args[j]?=some v→Value.okWide Tryz.prog W .any base t v)
  (hW:DataW.Whole enc Tryz.prog Tryz.f3.params.toList Rows.verifyObjectsSpec.vars false W args.toList ds gs before) (hL:laidMetH Tryz.prog Rows.verifyObjectsRow.laid W) (hsh:W.ShapedOpen Tryz.prog) :
  Calls Tryz.prog 3 args W fun e W'=>∃ v,e=.returned v∧Rows.verifyObjectsSpec.post enc Tryz.prog Tryz.f3 false true false false W args v W':=by
 have hW':=hW
 have hold:∀ x ∈ before,x.block<W.heap.size:=fun x hx=>hW.lt x hx
 obtain⟨p,q,hA0,hV,rfl,hfz,hnd⟩:=hW
 have hA:DataW.TrodAll enc Tryz.prog W 0 (fun _=>true) true Tryz.f3.params.toList args.toList ds p:=hA0
 rw [Tryz.params3] at hA hval
 obtain⟨v0,vs0,d0,ds0,p0,q0,hargs,rfl,rfl,h0,r0⟩:=trodAll_cons hA
 obtain⟨rfl,rfl,rfl⟩:=trodAll_nil r0
 obtain rfl:args=#[v0]:=by cases args;simp_all
 obtain⟨rfl,rfl⟩:=trodVars_none hV
 obtain⟨fs,hfs,_⟩:=obUnder
 obtain⟨cs0,rfl,_⟩:=okWide_struct hfs (hval 0 27 v0 rfl rfl)
 clear hA0
 have hin0:∀ x ∈ p0,x ∈ (p0 ++ []) ++ []:=fun x hx=>by simp [hx]
 obtain⟨fuel0,hf0⟩:=id h0
 simp only [Value.cells] at hf0
 obtain⟨o0,va0,vf0,vp0,vc0,hcs0,hat0,hsa0,hsf0,hsp0,hna0,hnp0,hlen0⟩:=ob_in hf0
 have e0:cs0=#[va0,vf0,vp0,vc0]:=by
  cases cs0
  simp_all
 subst e0
 have hL9:laidMetH Tryz.prog Rows.verifyCutsRow.laid W:=hL
 have hP:=laid_of hL9 hsh
 refine(zx7 (fun {o} hwf {va vf vp vc} w hv=>zi15 hwf w hv) o0 hsa0 hsf0 hsp0 va0 vf0 vp0 vc0 W hP hat0 hna0 hnp0).mono fun e W' ⟨he,hg⟩=>?_
 subst he
 exact⟨_,rfl,zo20 (pa:=p0 ++ []) (pv:=[]) hW' (fun _ _ _=>(trodAll_cons_mk (shut_bool Tryz.underlying4 _) trodAll_mk0))
  (fun sp hsp=>(trodAll_cons_mk (WideElems.Trod_stays zn16 readOb9 rowOb9 h0 (fun x hx=>hg.same (hold x (hin0 x hx))) (fun x hx=>hsp x (hin0 x hx))) trodAll_mk0)) (fun _ _=>rfl) rfl
  hg (ok_one (by kernel_rfl) rfl (okWide_bool_mk Tryz.underlying4 _))⟩
theorem zp8 (os:Os):laidMet Tryz.prog Rows.verifyObjectsRow.laid ((laidWorld os).forCall (fun _ _=>0) ⟨#[],#[.agg #[.slice none 0 0,.slice none 0 0,.slice none 0 0,.slice none 0 0]],[]⟩).memory:=
 laidMet_of_run' 8 (by kernel_rfl) (by kernel_rfl)
theorem zd7 (os:Os) {H:Type} (enc:TypeId × Value→H):∃ places,DataW.whole enc Tryz.prog ((laidWorld os).forCall (fun _ _=>0) ⟨#[],#[.agg #[.slice none 0 0,.slice none 0 0,.slice none 0 0,.slice none 0 0]],[]⟩).memory Tryz.f3.params.toList Rows.verifyObjectsSpec.vars false (#[.agg #[.slice none 0 0,.slice none 0 0,.slice none 0 0,.slice none 0 0]]:Array Value).toList 8=some ([.agg [.nil,.nil,.nil,.nil]],[],places):=
 ⟨[],by kernel_rfl⟩
set_option maxRecDepth 100000 in
theorem zb6 (os:Os) (started:os.Started) (H:Type) (enc:TypeId × Value→H) (F:Stop.Interp) :
  ReturnsInHanded {} Tryz.checked os 3 .any ((OpenSpec.ofChange Rows.verifyObjectsSpec).preRow enc Tryz.prog Tryz.f3 Rows.verifyObjectsRow.domain false Rows.verifyObjectsRow.laid) (((OpenSpec.ofChange Rows.verifyObjectsSpec).at F).post enc Tryz.prog Tryz.f3 false true false false):=by
 obtain⟨places,hx⟩:=zd7 os enc
 refine returnsInHanded_of_row (C:=Tryz.checked) (s:=OpenSpec.ofChange Rows.verifyObjectsSpec) ownTryz started (by kernel_rfl) Tryz.func3
  (witness_row_at (enc:=enc) (C:=Tryz.checked) false (laidWorld os) #[.agg #[.slice none 0 0,.slice none 0 0,.slice none 0 0,.slice none 0 0]] rfl (by kernel_rfl) (by kernel_rfl) (by kernel_rfl)
   (OpenSpec.preRow_of_cond 8 hx (by kernel_rfl) (fun k hk=>by cases hk) (by kernel_rfl) (zp8 os))) ?_
 intro W base args ds gs before hval hW _ _ _ hL hsh _
 exact zy4 H enc W base args ds gs before hval hW hL hsh
theorem verifyObjectsSaid:Rows.VerifyObjectsSaid:=
 OpenClaim.holds_of_cond 3 Tryz.f3 rfl rfl rfl rfl rfl rfl rfl ⟨rfl,rfl,rfl,rfl,rfl⟩ rfl rfl rfl rfl rfl (by kernel_rfl) Tryz.func3 (by kernel_rfl)
  (of_decide_eq_true (by kernel_rfl)) (by unfold Func.isWrapper;first | (rw [if_pos (by decide +kernel)];kernel_rfl) | (rw [if_neg (by decide +kernel)];exact⟨rfl,rfl⟩))
  (fun os started H enc _ F=>by rw [OpenClaim.pre_eq_preRow];exact zb6 os started H enc F)
theorem zc7 (f:FuncId) (fn:Func) (hf:Tryz.pinned.checked.prog.funcNamed "resolvent/resolventlaw11.VerifyObjects" = some f) (hfn:Tryz.pinned.checked.prog.funcs[f]?=some fn) :
  true=Tryz.pinned.checked.prog.looks []∧∀ (j:Nat) t,fn.params[j]?=some t→Tryz.pinned.checked.prog.wantsStandIn t=false:=by
 obtain rfl:f=3:=Option.some.inj ((show Tryz.prog.funcNamed "resolvent/resolventlaw11.VerifyObjects" = some 3 by kernel_rfl).symm.trans hf) |>.symm
 obtain rfl:fn=Tryz.f3:=(Option.some.inj (Tryz.func3.symm.trans hfn)).symm
 refine⟨by kernel_rfl,fun j t ht=>?_⟩
 rw [Tryz.params3] at ht
 have hm:t=27:=by have:=Array.mem_of_getElem? ht;first | simpa using this | (simp at this;rcases this with h <;> simp [h])
 rcases hm with rfl
 ·exact(show Tryz.prog.wantsStandIn 27=false by kernel_rfl)
theorem verifyObjects_holds:Rows.VerifyObjectsCardSaid:=
 Claim7.holds_tied_plain_at .later [] _ _ _ _ verifyObjectsSaid (fun _ h=>by cases h) (by kernel_rfl) (fun _ h=>by cases h) verifyObjects_row_tie rfl ⟨rfl,rfl⟩ (by kernel_rfl) rfl zc7 (by kernel_rfl)
end Go.Proofs.YtlmbiafloiompaaGreatDoor
