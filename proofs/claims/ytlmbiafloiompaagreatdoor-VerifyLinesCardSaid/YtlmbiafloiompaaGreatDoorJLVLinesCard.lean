/-
 Proved: 'Rows.VerifyLinesCardSaid': for all lines the statement VerifyLines of the landed package verify returns true,and they read as before. Conditions: the card's own (the listed variables start as the program's text lays them;the card ties them to the text;one table of package unicode/utf8 is held against the form's constant).
-/
import Derived.Test.YtlmbiafloiompaaGreatDoorJL07
import Derived.Test.YtlmbiafloiompaaGreatDoorJL09
import Derived.Test.YtlmbiafloiompaaGreatDoorJL48
import Derived.Test.YtlmbiafloiompaaGreatDoorJL50
import Derived.ChangeMaps5
namespace Go.Proofs.YtlmbiafloiompaaGreatDoor
open Go.ChangeShapes Go.WideShapes Go.ChangeAt Go.RowKit Go.Deep
set_option linter.unusedVariables false
set_option linter.unusedSimpArgs false
theorem readOb9:Tryz.prog.readableRec 27=true:=by kernel_rfl
theorem rowOb9:27<Tryz.prog.types.size:=of_decide_eq_true (by kernel_rfl)
theorem readStrs9:Tryz.prog.readableRec 22=true:=by kernel_rfl
theorem rowStrs9:22<Tryz.prog.types.size:=of_decide_eq_true (by kernel_rfl)
set_option maxRecDepth 100000 in
theorem zs5 (H:Type) (enc:TypeId × Value→H) (W:World) (base:Nat) (args:Array Value) (ds gs:List (DataW H)) (before:List MemPlace)
  (hval:∀ (j:Nat) t v,Tryz.f4.params[j]?=some t→args[j]?=some v→Value.okWide Tryz.prog W .any base t v)
  (hW:DataW.Whole enc Tryz.prog Tryz.f4.params.toList Rows.verifyLinesSpec.vars false W args.toList ds gs before) (hL:laidMetH Tryz.prog Rows.verifyLinesRow.laid W) (hsh:W.ShapedOpen Tryz.prog) :
  Calls Tryz.prog 4 args W fun e W'=>∃ v,e=.returned v∧Rows.verifyLinesSpec.post enc Tryz.prog Tryz.f4 false true false false W args v W':=by
 have hW':=hW
 have hold:∀ x ∈ before,x.block<W.heap.size:=fun x hx=>hW.lt x hx
 obtain⟨p,q,hA0,hV,rfl,hfz,hnd⟩:=hW
 have hA:DataW.TrodAll enc Tryz.prog W 0 (fun _=>true) true Tryz.f4.params.toList args.toList ds p:=hA0
 rw [Tryz.params4] at hA hval
 obtain⟨v0,vs0,d0,ds0,p0,q0,hargs,rfl,rfl,h0,r0⟩:=trodAll_cons hA
 obtain⟨rfl,rfl,rfl⟩:=trodAll_nil r0
 obtain rfl:args=#[v0]:=by cases args;simp_all
 obtain⟨rfl,rfl⟩:=trodVars_none hV
 obtain⟨oa0,len0,cap0,rfl⟩:=okWide_slice Tryz.underlying22 (hval 0 22 v0 rfl rfl)
 clear hA0
 have hin0:∀ x ∈ p0,x ∈ (p0 ++ []) ++ []:=fun x hx=>by simp [hx]
 obtain⟨fuel0,hf0⟩:=id h0
 simp only [Value.cells] at hf0
 obtain⟨l0,hl0,hcap0,hcap1,hat0,hst0⟩:=strs_cap hf0
 subst hl0
 have hL9:laidMetH Tryz.prog Rows.verifyCutsRow.laid W:=hL
 have hP:=laid_of hL9 hsh
 refine(zh10 (fun {o} hwf {va vf vp vc} w hv=>zk14 hwf w hv) l0 hst0 oa0 cap0 hcap0 hcap1 W hP hat0).mono fun e W' ⟨he,hg⟩=>?_
 subst he
 exact⟨_,rfl,ze19 (pa:=p0 ++ []) (pv:=[]) hW' (fun _ _ _=>(trodAll_cons_mk (shut_bool Tryz.underlying4 _) trodAll_mk0))
  (fun sp hsp=>(trodAll_cons_mk (WideElems.Trod_stays zl15 readStrs9 rowStrs9 h0 (fun x hx=>hg.same (hold x (hin0 x hx))) (fun x hx=>hsp x (hin0 x hx))) trodAll_mk0)) (fun _ _=>rfl) rfl
  hg (ok_one (by kernel_rfl) rfl (okWide_bool_mk Tryz.underlying4 _))⟩
theorem zr10 (os:Os):laidMet Tryz.prog Rows.verifyLinesRow.laid ((laidWorld os).forCall (fun _ _=>0) ⟨#[],#[.slice none 0 0],[]⟩).memory:=
 laidMet_of_run' 8 (by kernel_rfl) (by kernel_rfl)
theorem zc8 (os:Os) {H:Type} (enc:TypeId × Value→H):∃ places,DataW.whole enc Tryz.prog ((laidWorld os).forCall (fun _ _=>0) ⟨#[],#[.slice none 0 0],[]⟩).memory Tryz.f4.params.toList Rows.verifyLinesSpec.vars false (#[.slice none 0 0]:Array Value).toList 8=some ([.nil],[],places):=
 ⟨[],by kernel_rfl⟩
set_option maxRecDepth 100000 in
theorem zm7 (os:Os) (started:os.Started) (H:Type) (enc:TypeId × Value→H) (F:Stop.Interp) :
  ReturnsInHanded {} Tryz.checked os 4 .any ((OpenSpec.ofChange Rows.verifyLinesSpec).preRow enc Tryz.prog Tryz.f4 Rows.verifyLinesRow.domain false Rows.verifyLinesRow.laid) (((OpenSpec.ofChange Rows.verifyLinesSpec).at F).post enc Tryz.prog Tryz.f4 false true false false):=by
 obtain⟨places,hx⟩:=zc8 os enc
 refine returnsInHanded_of_row (C:=Tryz.checked) (s:=OpenSpec.ofChange Rows.verifyLinesSpec) ownTryz started (by kernel_rfl) Tryz.func4
  (witness_row_at (enc:=enc) (C:=Tryz.checked) false (laidWorld os) #[.slice none 0 0] rfl (by kernel_rfl) (by kernel_rfl) (by kernel_rfl)
   (OpenSpec.preRow_of_cond 8 hx (by kernel_rfl) (fun k hk=>by cases hk) (by kernel_rfl) (zr10 os))) ?_
 intro W base args ds gs before hval hW _ _ _ hL hsh _
 exact zs5 H enc W base args ds gs before hval hW hL hsh
theorem verifyLinesSaid:Rows.VerifyLinesSaid:=
 OpenClaim.holds_of_cond 4 Tryz.f4 rfl rfl rfl rfl rfl rfl rfl ⟨rfl,rfl,rfl,rfl,rfl⟩ rfl rfl rfl rfl rfl (by kernel_rfl) Tryz.func4 (by kernel_rfl)
  (of_decide_eq_true (by kernel_rfl)) (by unfold Func.isWrapper;first | (rw [if_pos (by decide +kernel)];kernel_rfl) | (rw [if_neg (by decide +kernel)];exact⟨rfl,rfl⟩))
  (fun os started H enc _ F=>by rw [OpenClaim.pre_eq_preRow];exact zm7 os started H enc F)
theorem zb8 (f:FuncId) (fn:Func) (hf:Tryz.pinned.checked.prog.funcNamed "resolvent/resolventlaw11.VerifyLines" = some f) (hfn:Tryz.pinned.checked.prog.funcs[f]?=some fn) :
  true=Tryz.pinned.checked.prog.looks []∧∀ (j:Nat) t,fn.params[j]?=some t→Tryz.pinned.checked.prog.wantsStandIn t=false:=by
 obtain rfl:f=4:=Option.some.inj ((show Tryz.prog.funcNamed "resolvent/resolventlaw11.VerifyLines" = some 4 by kernel_rfl).symm.trans hf) |>.symm
 obtain rfl:fn=Tryz.f4:=(Option.some.inj (Tryz.func4.symm.trans hfn)).symm
 refine⟨by kernel_rfl,fun j t ht=>?_⟩
 rw [Tryz.params4] at ht
 have hm:t=22:=by have:=Array.mem_of_getElem? ht;first | simpa using this | (simp at this;rcases this with h <;> simp [h])
 rcases hm with rfl
 ·exact(show Tryz.prog.wantsStandIn 22=false by kernel_rfl)
theorem verifyLines_holds:Rows.VerifyLinesCardSaid:=
 Claim7.holds_tied_plain_at .later [] _ _ _ _ verifyLinesSaid (fun _ h=>by cases h) (by kernel_rfl) (fun _ h=>by cases h) verifyLines_row_tie rfl ⟨rfl,rfl⟩ (by kernel_rfl) rfl zb8 (by kernel_rfl)
end Go.Proofs.YtlmbiafloiompaaGreatDoor
