/-
  3 texts in one (AsmA AsmC AsmD). Conditions: those of each theorem.
-/
import Derived.Test.YtlmbiafloiompaaGreatDoorJL39
import Derived.Test.YtlmbiafloiompaaGreatDoorJL20
import Derived.Deep.RegionLaw
import Derived.Deep.RegionHeld3
namespace Go.Proofs.YtlmbiafloiompaaGreatDoor
open Go Go.RowKit Go.WideShapes Go.ChangeShapes
set_option linter.unusedVariables false
set_option linter.unusedSimpArgs false
def ptC (p:Int × Int × Bool):List Value:=[.int .i64 p.1,.int .i64 p.2.1,.bool p.2.2]
theorem slPt:SlT 77 82 3 24:=⟨Tryz.underlying77,⟨.agg #[.int .i64 0,.int .i64 0,.bool false],by kernel_rfl,rfl⟩,by decide,by decide⟩
structure Mk (w wr:World) (g M:Nat) (va vf vp vc vq:Value) (s:St):Prop where
 box:Box wr g 79 #[va,vf,vp,vc,.map (some M),vq]
 ra:wr.ownsRow w.heap.size 9 1 va s.ob.atoms.length (s.ob.atoms.map Value.string)
 rf:wr.ownsRow w.heap.size 61 2 vf s.ob.funs.length (s.ob.funs.flatMap funC)
 rp:wr.ownsRow w.heap.size 64 3 vp s.ob.preds.length (s.ob.preds.flatMap predC)
 rc:wr.ownsRow w.heap.size 65 5 vc s.ob.code.length (s.ob.code.flatMap insC)
 rq:wr.ownsRow w.heap.size 82 3 vq s.pts.length (s.pts.flatMap ptC)
 rm:IMap wr M s.labs.length (labOf s.labs)
 below:Below w.heap.size w wr
 lt:w.heap.size≤g∧w.heap.size≤M
section
variable {w wr w' w6:World} {g M:Nat} {va vf vp vc vq v6:Value} {s:St} {S:Nat→Prop}
theorem Mk.fr (h:Mk w wr g M va vf vp vc vq s) (hfr:Fr S wr w') (hg:¬ S g) (hM:¬ S M) (ha:∀ k,va.ownBlock=some k→¬ S k) (hf:∀ k,vf.ownBlock=some k→¬ S k) (hp:∀ k,vp.ownBlock=some k→¬ S k) (hc:∀ k,vc.ownBlock=some k→¬ S k) (hq:∀ k,vq.ownBlock=some k→¬ S k) (hb:Below w.heap.size w w'):Mk w w' g M va vf vp vc vq s:=
 ⟨h.box.fr hfr hg,own_fr h.ra hfr ha,own_fr h.rf hfr hf,own_fr h.rp hfr hp,own_fr h.rc hfr hc,own_fr h.rq hfr hq,h.rm.fr hfr hM,hb,h.lt⟩
theorem Mk.up (h:Mk w wr g M va vf vp vc vq s) (hb:Below wr.heap.size wr w'):Mk w w' g M va vf vp vc vq s:=
 h.fr (S:=fun _=>False) (Fr.of_below hb) (fun x=>x) (fun x=>x) (fun _ _ x=>x) (fun _ _ x=>x) (fun _ _ x=>x) (fun _ _ x=>x) (fun _ _ x=>x) (h.below.trans (hb.mono h.below.size))
theorem Mk.drewN (h:Mk w wr g M va vf vp vc vq s) (n:Nat):Mk w (wr.drewN n) g M va vf vp vc vq s:=h.up (⟨rfl,rfl,rfl,Nat.le_refl _,fun _ _=>rfl⟩)
theorem Mk.alloc (h:Mk w wr g M va vf vp vc vq s) (o:Obj):Mk w (wr.alloc o) g M va vf vp vc vq s:=h.up (zc wr o)
theorem Mk.puta {x:ByteArray} (h:Mk w wr g M va vf vp vc vq s) (ha:App wr w6 w.heap.size 9 1 va v6 (s.ob.atoms.length+1) ((s.ob.atoms.map Value.string) ++ [.string x])) :
  Mk w (w6.setCell ⟨g,0,none⟩ v6) g M v6 vf vp vc vq { s with ob:={ s.ob with atoms:=s.ob.atoms ++ [x] } }∧w6.cell? ⟨g,0,none⟩=some va∧w6.frozen? ⟨g,0,none⟩=false:=by
 have hbx:=h.box.fr ha.fr (fun e=>zl h.ra h.box (by decide) _ e rfl)
 refine⟨⟨?_,(by have h2:=zq ha.own (p:=⟨g,0,none⟩) (fun k hk=>zl ha.own hbx (by decide) k hk) v6;simpa [funC,predC,insC,ptC] using h2),zq (own_fr h.rf ha.fr (fun k hk e=>zm h.rf h.ra (by decide) k hk e)) (p:=⟨g,0,none⟩) (fun k hk=>zl (own_fr h.rf ha.fr (fun k hk e=>zm h.rf h.ra (by decide) k hk e)) hbx (by decide) k hk) v6,zq (own_fr h.rp ha.fr (fun k hk e=>zm h.rp h.ra (by decide) k hk e)) (p:=⟨g,0,none⟩) (fun k hk=>zl (own_fr h.rp ha.fr (fun k hk e=>zm h.rp h.ra (by decide) k hk e)) hbx (by decide) k hk) v6,zq (own_fr h.rc ha.fr (fun k hk e=>zm h.rc h.ra (by decide) k hk e)) (p:=⟨g,0,none⟩) (fun k hk=>zl (own_fr h.rc ha.fr (fun k hk e=>zm h.rc h.ra (by decide) k hk e)) hbx (by decide) k hk) v6,zq (own_fr h.rq ha.fr (fun k hk e=>zm h.rq h.ra (by decide) k hk e)) (p:=⟨g,0,none⟩) (fun k hk=>zl (own_fr h.rq ha.fr (fun k hk e=>zm h.rq h.ra (by decide) k hk e)) hbx (by decide) k hk) v6,(h.rm.fr ha.fr (fun e=>h.rm.ne_own h.ra _ e rfl)).fr (S:=fun k=>k=g) ((Fr.refl (fun k=>k=g) w6).setCell (p:=⟨g,0,none⟩) (.inl rfl) v6) (fun e=>h.rm.ne_box h.box e),(h.below.trans (ha.fr.below h.below.size (fun k hk=>(own_ge h.ra hk).1))).setCell (p:=⟨g,0,none⟩) h.lt.1 _,h.lt⟩,hbx.cell 0,hbx.frozen 0⟩
 have:=hbx.set_ 0 v6
 simpa using this
theorem Mk.putf {x:ByteArray} {n:Int} (h:Mk w wr g M va vf vp vc vq s) (ha:App wr w6 w.heap.size 61 2 vf v6 (s.ob.funs.length+1) ((s.ob.funs.flatMap funC) ++ [.string x,.int .i64 n])) :
  Mk w (w6.setCell ⟨g,1,none⟩ v6) g M va v6 vp vc vq { s with ob:={ s.ob with funs:=s.ob.funs ++ [(x,n)] } }∧w6.cell? ⟨g,1,none⟩=some vf∧w6.frozen? ⟨g,1,none⟩=false:=by
 have hbx:=h.box.fr ha.fr (fun e=>zl h.rf h.box (by decide) _ e rfl)
 refine⟨⟨?_,zq (own_fr h.ra ha.fr (fun k hk e=>zm h.ra h.rf (by decide) k hk e)) (p:=⟨g,1,none⟩) (fun k hk=>zl (own_fr h.ra ha.fr (fun k hk e=>zm h.ra h.rf (by decide) k hk e)) hbx (by decide) k hk) v6,(by have h2:=zq ha.own (p:=⟨g,1,none⟩) (fun k hk=>zl ha.own hbx (by decide) k hk) v6;simpa [funC,predC,insC,ptC] using h2),zq (own_fr h.rp ha.fr (fun k hk e=>zm h.rp h.rf (by decide) k hk e)) (p:=⟨g,1,none⟩) (fun k hk=>zl (own_fr h.rp ha.fr (fun k hk e=>zm h.rp h.rf (by decide) k hk e)) hbx (by decide) k hk) v6,zq (own_fr h.rc ha.fr (fun k hk e=>zm h.rc h.rf (by decide) k hk e)) (p:=⟨g,1,none⟩) (fun k hk=>zl (own_fr h.rc ha.fr (fun k hk e=>zm h.rc h.rf (by decide) k hk e)) hbx (by decide) k hk) v6,zq (own_fr h.rq ha.fr (fun k hk e=>zm h.rq h.rf (by decide) k hk e)) (p:=⟨g,1,none⟩) (fun k hk=>zl (own_fr h.rq ha.fr (fun k hk e=>zm h.rq h.rf (by decide) k hk e)) hbx (by decide) k hk) v6,(h.rm.fr ha.fr (fun e=>h.rm.ne_own h.rf _ e rfl)).fr (S:=fun k=>k=g) ((Fr.refl (fun k=>k=g) w6).setCell (p:=⟨g,1,none⟩) (.inl rfl) v6) (fun e=>h.rm.ne_box h.box e),(h.below.trans (ha.fr.below h.below.size (fun k hk=>(own_ge h.rf hk).1))).setCell (p:=⟨g,1,none⟩) h.lt.1 _,h.lt⟩,hbx.cell 1,hbx.frozen 1⟩
 have:=hbx.set_ 1 v6
 simpa using this
theorem Mk.putp {x:ByteArray} {n m:Int} (h:Mk w wr g M va vf vp vc vq s) (ha:App wr w6 w.heap.size 64 3 vp v6 (s.ob.preds.length+1) ((s.ob.preds.flatMap predC) ++ [.string x,.int .i64 n,.int .i64 m])) :
  Mk w (w6.setCell ⟨g,2,none⟩ v6) g M va vf v6 vc vq { s with ob:={ s.ob with preds:=s.ob.preds ++ [(x,n,m)] } }∧w6.cell? ⟨g,2,none⟩=some vp∧w6.frozen? ⟨g,2,none⟩=false:=by
 have hbx:=h.box.fr ha.fr (fun e=>zl h.rp h.box (by decide) _ e rfl)
 refine⟨⟨?_,zq (own_fr h.ra ha.fr (fun k hk e=>zm h.ra h.rp (by decide) k hk e)) (p:=⟨g,2,none⟩) (fun k hk=>zl (own_fr h.ra ha.fr (fun k hk e=>zm h.ra h.rp (by decide) k hk e)) hbx (by decide) k hk) v6,zq (own_fr h.rf ha.fr (fun k hk e=>zm h.rf h.rp (by decide) k hk e)) (p:=⟨g,2,none⟩) (fun k hk=>zl (own_fr h.rf ha.fr (fun k hk e=>zm h.rf h.rp (by decide) k hk e)) hbx (by decide) k hk) v6,(by have h2:=zq ha.own (p:=⟨g,2,none⟩) (fun k hk=>zl ha.own hbx (by decide) k hk) v6;simpa [funC,predC,insC,ptC] using h2),zq (own_fr h.rc ha.fr (fun k hk e=>zm h.rc h.rp (by decide) k hk e)) (p:=⟨g,2,none⟩) (fun k hk=>zl (own_fr h.rc ha.fr (fun k hk e=>zm h.rc h.rp (by decide) k hk e)) hbx (by decide) k hk) v6,zq (own_fr h.rq ha.fr (fun k hk e=>zm h.rq h.rp (by decide) k hk e)) (p:=⟨g,2,none⟩) (fun k hk=>zl (own_fr h.rq ha.fr (fun k hk e=>zm h.rq h.rp (by decide) k hk e)) hbx (by decide) k hk) v6,(h.rm.fr ha.fr (fun e=>h.rm.ne_own h.rp _ e rfl)).fr (S:=fun k=>k=g) ((Fr.refl (fun k=>k=g) w6).setCell (p:=⟨g,2,none⟩) (.inl rfl) v6) (fun e=>h.rm.ne_box h.box e),(h.below.trans (ha.fr.below h.below.size (fun k hk=>(own_ge h.rp hk).1))).setCell (p:=⟨g,2,none⟩) h.lt.1 _,h.lt⟩,hbx.cell 2,hbx.frozen 2⟩
 have:=hbx.set_ 2 v6
 simpa using this
theorem Mk.putc {i0 i1 i2 i3 i4:Int} (h:Mk w wr g M va vf vp vc vq s) (ha:App wr w6 w.heap.size 65 5 vc v6 (s.ob.code.length+1) ((s.ob.code.flatMap insC) ++ [.int .i64 i0,.int .i64 i1,.int .i64 i2,.int .i64 i3,.int .i64 i4])) :
  Mk w (w6.setCell ⟨g,3,none⟩ v6) g M va vf vp v6 vq { s with ob:={ s.ob with code:=s.ob.code ++ [(i0,i1,i2,i3,i4)] } }∧w6.cell? ⟨g,3,none⟩=some vc∧w6.frozen? ⟨g,3,none⟩=false:=by
 have hbx:=h.box.fr ha.fr (fun e=>zl h.rc h.box (by decide) _ e rfl)
 refine⟨⟨?_,zq (own_fr h.ra ha.fr (fun k hk e=>zm h.ra h.rc (by decide) k hk e)) (p:=⟨g,3,none⟩) (fun k hk=>zl (own_fr h.ra ha.fr (fun k hk e=>zm h.ra h.rc (by decide) k hk e)) hbx (by decide) k hk) v6,zq (own_fr h.rf ha.fr (fun k hk e=>zm h.rf h.rc (by decide) k hk e)) (p:=⟨g,3,none⟩) (fun k hk=>zl (own_fr h.rf ha.fr (fun k hk e=>zm h.rf h.rc (by decide) k hk e)) hbx (by decide) k hk) v6,zq (own_fr h.rp ha.fr (fun k hk e=>zm h.rp h.rc (by decide) k hk e)) (p:=⟨g,3,none⟩) (fun k hk=>zl (own_fr h.rp ha.fr (fun k hk e=>zm h.rp h.rc (by decide) k hk e)) hbx (by decide) k hk) v6,(by have h2:=zq ha.own (p:=⟨g,3,none⟩) (fun k hk=>zl ha.own hbx (by decide) k hk) v6;simpa [funC,predC,insC,ptC] using h2),zq (own_fr h.rq ha.fr (fun k hk e=>zm h.rq h.rc (by decide) k hk e)) (p:=⟨g,3,none⟩) (fun k hk=>zl (own_fr h.rq ha.fr (fun k hk e=>zm h.rq h.rc (by decide) k hk e)) hbx (by decide) k hk) v6,(h.rm.fr ha.fr (fun e=>h.rm.ne_own h.rc _ e rfl)).fr (S:=fun k=>k=g) ((Fr.refl (fun k=>k=g) w6).setCell (p:=⟨g,3,none⟩) (.inl rfl) v6) (fun e=>h.rm.ne_box h.box e),(h.below.trans (ha.fr.below h.below.size (fun k hk=>(own_ge h.rc hk).1))).setCell (p:=⟨g,3,none⟩) h.lt.1 _,h.lt⟩,hbx.cell 3,hbx.frozen 3⟩
 have:=hbx.set_ 3 v6
 simpa using this
theorem Mk.putq {l n:Int} {b:Bool} (h:Mk w wr g M va vf vp vc vq s) (ha:App wr w6 w.heap.size 82 3 vq v6 (s.pts.length+1) ((s.pts.flatMap ptC) ++ [.int .i64 l,.int .i64 n,.bool b])) :
  Mk w (w6.setCell ⟨g,5,none⟩ v6) g M va vf vp vc v6 { s with pts:=s.pts ++ [(l,n,b)] }∧w6.cell? ⟨g,5,none⟩=some vq∧w6.frozen? ⟨g,5,none⟩=false:=by
 have hbx:=h.box.fr ha.fr (fun e=>zl h.rq h.box (by decide) _ e rfl)
 refine⟨⟨?_,zq (own_fr h.ra ha.fr (fun k hk e=>zm h.ra h.rq (by decide) k hk e)) (p:=⟨g,5,none⟩) (fun k hk=>zl (own_fr h.ra ha.fr (fun k hk e=>zm h.ra h.rq (by decide) k hk e)) hbx (by decide) k hk) v6,zq (own_fr h.rf ha.fr (fun k hk e=>zm h.rf h.rq (by decide) k hk e)) (p:=⟨g,5,none⟩) (fun k hk=>zl (own_fr h.rf ha.fr (fun k hk e=>zm h.rf h.rq (by decide) k hk e)) hbx (by decide) k hk) v6,zq (own_fr h.rp ha.fr (fun k hk e=>zm h.rp h.rq (by decide) k hk e)) (p:=⟨g,5,none⟩) (fun k hk=>zl (own_fr h.rp ha.fr (fun k hk e=>zm h.rp h.rq (by decide) k hk e)) hbx (by decide) k hk) v6,zq (own_fr h.rc ha.fr (fun k hk e=>zm h.rc h.rq (by decide) k hk e)) (p:=⟨g,5,none⟩) (fun k hk=>zl (own_fr h.rc ha.fr (fun k hk e=>zm h.rc h.rq (by decide) k hk e)) hbx (by decide) k hk) v6,(by have h2:=zq ha.own (p:=⟨g,5,none⟩) (fun k hk=>zl ha.own hbx (by decide) k hk) v6;simpa [funC,predC,insC,ptC] using h2),(h.rm.fr ha.fr (fun e=>h.rm.ne_own h.rq _ e rfl)).fr (S:=fun k=>k=g) ((Fr.refl (fun k=>k=g) w6).setCell (p:=⟨g,5,none⟩) (.inl rfl) v6) (fun e=>h.rm.ne_box h.box e),(h.below.trans (ha.fr.below h.below.size (fun k hk=>(own_ge h.rq hk).1))).setCell (p:=⟨g,5,none⟩) h.lt.1 _,h.lt⟩,hbx.cell 5,hbx.frozen 5⟩
 have:=hbx.set_ 5 v6
 simpa using this
def OwnK (va vf vp vc vq:Value) (k:Nat):Prop:=va.ownBlock=some k ∨ vf.ownBlock=some k ∨ vp.ownBlock=some k ∨ vc.ownBlock=some k ∨ vq.ownBlock=some k
structure MkF (w w':World) (g M:Nat) (va vf vp vc vq ua uf up uc uq:Value):Prop where
 fr:Fr (fun k=>k=g ∨ k=M ∨ OwnK va vf vp vc vq k) w w'
 own:∀ k,OwnK ua uf up uc uq k→OwnK va vf vp vc vq k ∨ w.heap.size≤k
theorem MkF.below {w w':World} {g M:Nat} {va vf vp vc vq:Value} (hb:Below w.heap.size w w'):MkF w w' g M va vf vp vc vq va vf vp vc vq:=
 ⟨(Fr.of_below (S:=fun _=>False) hb).mono (fun _ _ x=>False.elim x),fun _ h=>.inl h⟩
theorem MkF.trans {w w' w'':World} {g M:Nat} {va vf vp vc vq ua uf up uc uq ya yf yp yc yq:Value} (h:MkF w w' g M va vf vp vc vq ua uf up uc uq) (k:MkF w' w'' g M ua uf up uc uq ya yf yp yc yq):MkF w w'' g M va vf vp vc vq ya yf yp yc yq:=by
 refine⟨⟨k.fr.os.trans h.fr.os,k.fr.tape.trans h.fr.tape,k.fr.output.trans h.fr.output,Nat.le_trans h.fr.size k.fr.size,fun j hj hs=>(k.fr.block j (Nat.lt_of_lt_of_le hj h.fr.size) (fun e=>?_)).trans (h.fr.block j hj hs)⟩,fun j hj=>?_⟩
 ·rcases e with e | e | e
  ·exact hs (.inl e)
  ·exact hs (.inr (.inl e))
  ·rcases h.own j e with e | e
   ·exact hs (.inr (.inr e))
   ·omega
 ·rcases k.own j hj with e | e
  ·exact h.own j e
  ·exact .inr (Nat.le_trans h.fr.size e)
theorem MkF.keep {w w':World} {g M:Nat} {va vf vp vc vq ua uf up uc uq:Value} (h:MkF w w' g M va vf vp vc vq ua uf up uc uq) {b:Nat} {t:TypeId} {cs:Array Value} (hb:Box w b t cs) (hg:b≠g) (hM:b≠M) (hn:¬ OwnK va vf vp vc vq b):Box w' b t cs∧¬ OwnK ua uf up uc uq b:=by
 refine⟨hb.fr h.fr (by
  rintro(e | e | e)
  ·exact hg e
  ·exact hM e
  ·exact hn e),fun e=>?_⟩
 rcases h.own b e with e | e
 ·exact hn e
 ·have:=hb.lt
  omega
theorem MkF.puta {w w6:World} {base:Nat} {e0:TypeId} {size m:Nat} {xs:List Value} {g M:Nat} {va vf vp vc vq v6:Value} (ha:App w w6 base e0 size va v6 m xs):MkF w (w6.setCell ⟨g,0,none⟩ v6) g M va vf vp vc vq v6 vf vp vc vq:=by
 refine⟨(ha.fr.mono (fun k _ e=>.inr (.inr (.inl e)))).setCell (p:=⟨g,0,none⟩) (.inl (.inl rfl)) _,fun k hk=>?_⟩
 rcases hk with e | e | e | e | e
 ·rcases ha.at_ with h | ⟨b,h,hb⟩
  ·rw [h] at e
   exact .inl (.inl e)
  ·rw [h] at e
   injection e with e
   exact .inr (e ▸ hb)
 ·exact .inl (.inr (.inl e))
 ·exact .inl (.inr (.inr (.inl e)))
 ·exact .inl (.inr (.inr (.inr (.inl e))))
 ·exact .inl (.inr (.inr (.inr (.inr e))))
theorem MkF.putf {w w6:World} {base:Nat} {e0:TypeId} {size m:Nat} {xs:List Value} {g M:Nat} {va vf vp vc vq v6:Value} (ha:App w w6 base e0 size vf v6 m xs):MkF w (w6.setCell ⟨g,1,none⟩ v6) g M va vf vp vc vq va v6 vp vc vq:=by
 refine⟨(ha.fr.mono (fun k _ e=>.inr (.inr (.inr (.inl e))))).setCell (p:=⟨g,1,none⟩) (.inl (.inl rfl)) _,fun k hk=>?_⟩
 rcases hk with e | e | e | e | e
 ·exact .inl (.inl e)
 ·rcases ha.at_ with h | ⟨b,h,hb⟩
  ·rw [h] at e
   exact .inl (.inr (.inl e))
  ·rw [h] at e
   injection e with e
   exact .inr (e ▸ hb)
 ·exact .inl (.inr (.inr (.inl e)))
 ·exact .inl (.inr (.inr (.inr (.inl e))))
 ·exact .inl (.inr (.inr (.inr (.inr e))))
theorem MkF.putp {w w6:World} {base:Nat} {e0:TypeId} {size m:Nat} {xs:List Value} {g M:Nat} {va vf vp vc vq v6:Value} (ha:App w w6 base e0 size vp v6 m xs):MkF w (w6.setCell ⟨g,2,none⟩ v6) g M va vf vp vc vq va vf v6 vc vq:=by
 refine⟨(ha.fr.mono (fun k _ e=>.inr (.inr (.inr (.inr (.inl e)))))).setCell (p:=⟨g,2,none⟩) (.inl (.inl rfl)) _,fun k hk=>?_⟩
 rcases hk with e | e | e | e | e
 ·exact .inl (.inl e)
 ·exact .inl (.inr (.inl e))
 ·rcases ha.at_ with h | ⟨b,h,hb⟩
  ·rw [h] at e
   exact .inl (.inr (.inr (.inl e)))
  ·rw [h] at e
   injection e with e
   exact .inr (e ▸ hb)
 ·exact .inl (.inr (.inr (.inr (.inl e))))
 ·exact .inl (.inr (.inr (.inr (.inr e))))
theorem MkF.putq {w w6:World} {base:Nat} {e0:TypeId} {size m:Nat} {xs:List Value} {g M:Nat} {va vf vp vc vq v6:Value} (ha:App w w6 base e0 size vq v6 m xs):MkF w (w6.setCell ⟨g,5,none⟩ v6) g M va vf vp vc vq va vf vp vc v6:=by
 refine⟨(ha.fr.mono (fun k _ e=>.inr (.inr (.inr (.inr (.inr (.inr e))))))).setCell (p:=⟨g,5,none⟩) (.inl (.inl rfl)) _,fun k hk=>?_⟩
 rcases hk with e | e | e | e | e
 ·exact .inl (.inl e)
 ·exact .inl (.inr (.inl e))
 ·exact .inl (.inr (.inr (.inl e)))
 ·exact .inl (.inr (.inr (.inr (.inl e))))
 ·rcases ha.at_ with h | ⟨b,h,hb⟩
  ·rw [h] at e
   exact .inl (.inr (.inr (.inr (.inr e))))
  ·rw [h] at e
   injection e with e
   exact .inr (e ▸ hb)
theorem zt18 (labs:List (Int × Int)) (k v:Int) (h:labOf labs k=none):labOf (labs ++ [(k,v)])=fun j=>if j=k then some v else labOf labs j:=by
 funext j
 unfold labOf at h ⊢
 rw [List.find?_append]
 by_cases hj:j=k
 ·subst hj
  have h1:labs.find? (fun p=>p.1 == j)=none:=by simpa using h
  rw [h1,if_pos rfl]
  simp
 ·rw [if_neg hj]
  have:([(k,v)]:List (Int × Int)).find? (fun p=>p.1 == j)=none:=by simp;exact fun e=>hj e.symm
  rw [this,Option.or_none]
theorem Mk.lab (h:Mk w wr g M va vf vp vc vq s) (k v:Int) (hk:(Lit.int .i64 k).wf=true) (hv:(Lit.int .i64 v).wf=true) (hn:s.labs.length<maxLen) (h0:labOf s.labs k=none) :
  ∃ w',(Instr.mapUpdate 76 (.map (some M)) (.int .i64 k) (.int .i64 v)).run Tryz.prog wr=.ok () w'∧Hid (Mk w w' g M va vf vp vc vq { s with labs:=s.labs ++ [(k,v)] }):=by
 obtain⟨w',hr,hm,hf⟩:=h.rm.store k v hk hv hn
 refine⟨w',hr,hD ?_⟩
 have hb:Below w.heap.size w w':=h.below.trans (hf.below h.below.size (fun k hk=>by subst hk;exact h.lt.2))
 refine⟨h.box.fr hf (fun e=>h.rm.ne_box h.box e.symm),own_fr h.ra hf (fun k hk e=>h.rm.ne_own h.ra k hk e),own_fr h.rf hf (fun k hk e=>h.rm.ne_own h.rf k hk e),own_fr h.rp hf (fun k hk e=>h.rm.ne_own h.rp k hk e),own_fr h.rc hf (fun k hk e=>h.rm.ne_own h.rc k hk e),own_fr h.rq hf (fun k hk e=>h.rm.ne_own h.rq k hk e),?_,hb,h.lt⟩
 show IMap w' M (s.labs ++ [(k,v)]).length (labOf (s.labs ++ [(k,v)]))
 rw [zt18 _ _ _ h0,List.length_append]
 exact hm
theorem Mk.at_ (h:Mk w wr g M va vf vp vc vq s):ObAt wr va vf vp vc s.ob:=
 ⟨CellsAt.of_own h.ra (by decide),CellsAt.of_own h.rf (by decide),CellsAt.of_own h.rp (by decide),CellsAt.of_own h.rc (by decide)⟩
theorem Mk.cells (h:Mk w wr g M va vf vp vc vq s):wr.cell? ⟨g,0,none⟩=some va∧wr.cell? ⟨g,1,none⟩=some vf∧wr.cell? ⟨g,2,none⟩=some vp∧wr.cell? ⟨g,3,none⟩=some vc∧wr.cell? ⟨g,4,none⟩=some (.map (some M))∧wr.cell? ⟨g,5,none⟩=some vq:=
 ⟨h.box.cell 0,h.box.cell 1,h.box.cell 2,h.box.cell 3,h.box.cell 4,h.box.cell 5⟩
theorem Mk.start (w:World) (w1:World) (hb:Below w.heap.size w w1):Mk w ((w1.alloc (.map #[] 0)).alloc (.cells #[.slice none 0 0,.slice none 0 0,.slice none 0 0,.slice none 0 0,.map (some w1.heap.size),.slice none 0 0] 79)) (w1.heap.size+1) w1.heap.size (.slice none 0 0) (.slice none 0 0) (.slice none 0 0) (.slice none 0 0) (.slice none 0 0) startSt:=by
 have h1:=Box.new (w1.alloc (.map #[] 0)) 79 #[.slice none 0 0,.slice none 0 0,.slice none 0 0,.slice none 0 0,.map (some w1.heap.size),.slice none 0 0]
 rw [World.size_alloc] at h1
 refine⟨h1,⟨rfl,.inl ⟨rfl,rfl⟩⟩,⟨rfl,.inl ⟨rfl,rfl⟩⟩,⟨rfl,.inl ⟨rfl,rfl⟩⟩,⟨rfl,.inl ⟨rfl,rfl⟩⟩,⟨rfl,.inl ⟨rfl,rfl⟩⟩,?_,(hb.alloc hb.size _).alloc (by have:=hb.size;simp;omega) _,by have:=hb.size;omega,hb.size⟩
 exact(IMap.new w1).below (zc _ _)
end
end Go.Proofs.YtlmbiafloiompaaGreatDoor

namespace Go.Proofs.YtlmbiafloiompaaGreatDoor
open Go Go.RowKit Go.WideShapes Go.ChangeShapes
set_option linter.unusedVariables false
set_option linter.unusedSimpArgs false
theorem zh14 {α:Type} [DecidableEq α]:∀ (l:List α) (x:α) (k:Nat) (hk:k<l.length),(∀ j (hj:j<l.length),j<k→l[j]≠x)→l[k]=x→placeOf l x=k∧x ∈ l
 | [],x,k,hk,_,_=>by simp at hk
 | y :: l,x,0,hk,_,hx=>by
  simp only [List.getElem_cons_zero] at hx
  subst hx
  exact⟨by simp [placeOf,List.findIdx_cons],by simp⟩
 | y :: l,x,k+1,hk,h,hx=>by
  have hy:y≠x:=h 0 (by simp) (by omega)
  obtain⟨h1,h2⟩:=zh14 l x k (by simpa using hk) (fun j hj hjk=>by
   have:=h (j+1) (by simpa using hj) (by omega)
   simpa using this) (by simpa using hx)
  refine⟨?_,List.mem_cons_of_mem _ h2⟩
  unfold placeOf at h1 ⊢
  rw [List.findIdx_cons,decide_eq_false hy,h1]
  rfl
theorem zg7 {α:Type} [DecidableEq α] (l:List α) (x:α) (h:x ∉ l):placeOf l x=l.length:=by
 unfold placeOf
 rw [List.findIdx_eq_length]
 intro y hy
 simp only [decide_eq_false_iff_not]
 rintro rfl
 exact h hy
theorem zp8 {α:Type} [DecidableEq α] {l:List α} {x:α} (h:x ∈ l):addTo l x=l:=if_pos h
theorem zy11 {α:Type} [DecidableEq α] {l:List α} {x:α} (h:x ∉ l):addTo l x=l ++ [x]:=if_neg h
def idxI {α:Type} [DecidableEq α] (l:List α) (x:α):Int:=if x ∈ l then(placeOf l x:Int) else -1
theorem za17 {α:Type} [DecidableEq α] {l:List α} {x:α} {k:Nat} (hk:k<l.length) (h:∀ j (hj:j<l.length),j<k→l[j]≠x) (hx:l[k]=x):idxI l x=(k:Int):=by
 obtain⟨h1,h2⟩:=zh14 l x k hk h hx
 rw [idxI,if_pos h2,h1]
theorem zp13 {α:Type} [DecidableEq α] {l:List α} {x:α} (h:∀ j (hj:j<l.length),l[j]≠x):idxI l x = -1:=by
 rw [idxI,if_neg]
 intro hm
 obtain⟨j,hj,he⟩:=List.getElem_of_mem hm
 exact h j hj he
set_option maxHeartbeats 2000000 in
theorem zr13 (l:List ByteArray) (hm:l.length≤1000000) (v:Value) (x:ByteArray) (w:World) (hv:AtomsAt w v l) :
  Calls Tryz.prog 139 #[v,.string x] w fun e w'=>e=.returned (.int .i64 (idxI l x))∧w=w':=by
 obtain⟨A,c,rfl⟩:=CellsAt.form hv
 have HV:=hD hv
 have HY:=hD (fun k hk h hx=>za17 (l:=l) (x:=x) (k:=k) hk h hx)
 have HM:=hD (fun h=>zp13 (l:=l) (x:=x) h)
 generalize idxI l x=r at HY HM
 clear hv
 go_enter Tryz.func139,Tryz.ntmps139
 go_wp2
 go_loop [5,8] (fun _ i=>∃ k:Nat,k≤l.length∧i=.int .i64 k∧Hid (∀ j (hj:j<l.length),j<k→l[j]≠x)) (fun _ i=>l.length - (intOf i).toNat)
 case atStart=>exact⟨0,by omega,rfl,hD (fun j hj h=>absurd h (by omega))⟩
 case round=>
  obtain⟨k,hk,rfl,HN⟩:=hrel
  by_cases hlt:k<l.length
  ·obtain⟨b,off,rfl,hb,hc⟩:=zo3 HV.out k hlt
   by_cases he:l[k]=x
   ·have HX:=hD (HY.out k hlt HN.out he)
    have e1:(x.toList == l[k].toList)=true:=by rw [he];simp
    generalize l[k]=y at hc e1
    clear he
    go_wp2
    go_ret
    exact⟨by rw [HX.out];rfl,rfl⟩
   ·have HN2:Hid (∀ j (hj:j<l.length),j<k+1→l[j]≠x):=hD (fun j hj h=>by
     by_cases hjk:j<k
     ·exact HN.out j hj hjk
     ·obtain rfl:j=k:=by omega
      exact he)
    have e1:(x.toList == l[k].toList)=false:=zt2 (fun e=>he e.symm)
    generalize l[k]=y at hc e1
    clear he
    go_wp2
    go_round
    case rel=>exact⟨k+1,by omega,by go_num,HN2⟩
    case measure=>simp [intOf];omega
  ·obtain rfl:k=l.length:=by omega
   have HX:=hD (HM.out (fun j hj=>HN.out j hj (by omega)))
   go_wp2
   go_ret
   exact⟨by rw [HX.out];rfl,rfl⟩
end Go.Proofs.YtlmbiafloiompaaGreatDoor

namespace Go.Proofs.YtlmbiafloiompaaGreatDoor
open Go Go.RowKit Go.WideShapes Go.ChangeShapes
set_option linter.unusedVariables false
set_option linter.unusedSimpArgs false
set_option maxHeartbeats 2000000 in
theorem zq13 (l:List (ByteArray × Int)) (hm:l.length≤1000000) (v:Value) (x:ByteArray) (n:Int) (w:World) (hv:FunsAt w v l) :
  Calls Tryz.prog 140 #[v,.agg #[.string x,.int .i64 n]] w fun e w'=>e=.returned (.int .i64 (idxI l (x,n)))∧Below w.heap.size w w':=by
 obtain⟨A,c,rfl⟩:=CellsAt.form hv
 have HV:=hD hv
 have HY:=hD (fun k hk h hx=>za17 (l:=l) (x:=(x,n)) (k:=k) hk h hx)
 have HM:=hD (fun h=>zp13 (l:=l) (x:=(x,n)) h)
 have B0:=hD (zc w (.cells #[.string x,.int .i64 n] 61))
 have X0:=hD (Box.new w 61 #[.string x,.int .i64 n])
 generalize idxI l (x,n)=r at HY HM
 clear hv
 go_enter Tryz.func140,Tryz.ntmps140
 go_wp2
 go_loopw [5,8] (fun _ i wr=>∃ k:Nat,k≤l.length∧i=.int .i64 k∧Hid (∀ j (hj:j<l.length),j<k→l[j]≠(x,n))∧Hid (Below w.heap.size w wr)∧Hid (Box wr w.heap.size 61 #[.string x,.int .i64 n])) (fun _ i _=>l.length - (intOf i).toNat)
 case atStart=>exact⟨0,by omega,rfl,hD (fun j hj h=>absurd h (by omega)),B0,X0⟩
 case round=>
  obtain⟨k,hk,rfl,HN,HB,HX⟩:=hrel
  clear B0 X0
  have c0:=HX.out.cell 0
  have c1:=HX.out.cell 1
  by_cases hlt:k<l.length
  ·obtain⟨b,off,rfl,hb,hc0,hc1⟩:=zs2 HV.out k hlt
   have d0:=(HB.out.cell (p:=⟨b,off+k * 2,none⟩) hb).trans hc0
   have d1:=(HB.out.cell (p:=⟨b,off+k * 2+1,none⟩) hb).trans hc1
   have i1:(k:Int)<(l.length:Int):=by omega
   have i2:(0:Int)≤(k:Int):=by omega
   clear hc0 hc1
   by_cases he:l[k]=(x,n)
   ·have HZ:=hD (HY.out k hlt HN.out he)
    have e1:(x.toList=l[k].1.toList)=True:=by rw [he];simp
    have e2:(n=l[k].2)=True:=by rw [he];simp
    generalize l[k].1=y at d0 e1
    generalize l[k].2=m at d1 e2
    clear he
    go_upto_region 4 with(fail)
    go_quiet (fail)
    go_wp2
    go_ret
    exact⟨by rw [HZ.out];rfl,zx HB.out _⟩
   ·have HN2:Hid (∀ j (hj:j<l.length),j<k+1→l[j]≠(x,n)):=hD (fun j hj h=>by
     by_cases hjk:j<k
     ·exact HN.out j hj hjk
     ·obtain rfl:j=k:=by omega
      exact he)
    have hne:¬ (x=l[k].1∧n=l[k].2):=fun e=>he (Prod.ext e.1.symm e.2.symm)
    by_cases h1:x=l[k].1
    ·have e1:(x.toList=l[k].1.toList)=True:=by rw [h1];simp
     have e2:(n=l[k].2)=False:=by simpa using fun e=>hne ⟨h1,e⟩
     generalize l[k].1=y at d0 e1
     generalize l[k].2=m at d1 e2
     clear he hne h1
     go_upto_region 4 with(fail)
     go_quiet (fail)
     go_wp2
     go_roundw
     case rel=>exact⟨k+1,by omega,by go_num,HN2,hD (zx HB.out _),hD (HX.out.drewN _)⟩
     case measure=>simp [intOf];omega
    ·have e1:(x.toList=l[k].1.toList)=False:=by
      have:=zt2 h1
      simpa using this
     generalize l[k].1=y at d0 e1
     generalize l[k].2=m at d1
     clear he hne h1
     go_upto_region 4 with(fail)
     go_quiet (fail)
     go_wp2
     go_roundw
     case rel=>exact⟨k+1,by omega,by go_num,HN2,hD (zx HB.out _),hD (HX.out.drewN _)⟩
     case measure=>simp [intOf];omega
  ·obtain rfl:k=l.length:=by omega
   have HZ:=hD (HM.out (fun j hj=>HN.out j hj (by omega)))
   go_wp2
   go_ret
   exact⟨by rw [HZ.out];rfl,HB.out⟩
theorem zg14 (w0:World) (g M:Nat) (va vf vp vc vq:Value) (s:St) (x:ByteArray) (hl:s.ob.atoms.length≤1000000) (w:World) (hk:Mk w0 w g M va vf vp vc vq s) :
  Calls Tryz.prog 108 #[.pointer (some ⟨g,0,none⟩),.string x] w fun e w'=>∃ va',e=.returned (.int .i64 (placeOf s.ob.atoms x:Nat))∧Mk w0 w' g M va' vf vp vc vq { s with ob:={ s.ob with atoms:=addTo s.ob.atoms x } }∧MkF w w' g M va vf vp vc vq va' vf vp vc vq:=by
 have HK:=hD hk
 have c0:=hk.box.cell 0
 have HI:=hD (zr13 s.ob.atoms hl va x w hk.at_.atoms)
 by_cases hx:x ∈ s.ob.atoms
 ·have hi:idxI s.ob.atoms x=(placeOf s.ob.atoms x:Nat):=if_pos hx
  rw [hi] at HI
  have HE:Hid (({ s with ob:={ s.ob with atoms:=addTo s.ob.atoms x } }:St)=s):=hD (by rw [zp8 hx])
  generalize placeOf s.ob.atoms x=n at HI
  clear hx hi hk
  go_enter Tryz.func108,Tryz.ntmps108
  go_wp2_with (go_at_call 139;refine HI.out.mono ?_;rintro e w2 ⟨rfl,rfl⟩)
  go_ret
  exact⟨va,rfl,by rw [HE.out];exact HK.out,MkF.below (Below.refl _ _)⟩
 ·have hi:idxI s.ob.atoms x = -1:=if_neg hx
  rw [hi] at HI
  have HE:Hid (({ s with ob:={ s.ob with atoms:=addTo s.ob.atoms x } }:St)={ s with ob:={ s.ob with atoms:=s.ob.atoms ++ [x] } }):=hD (by rw [zy11 hx])
  have HP:=hD (zg7 _ _ hx)
  obtain⟨A,c,hva,_⟩:=zc1 hk.ra
  subst hva
  have c0a:=fun oo=>(hk.box.alloc oo).cell 0
  obtain⟨v6,w6,hr6,HA6⟩:=zp2 slStr hk.ra [.string x] rfl (by intro u hu;simp only [List.mem_cons,List.not_mem_nil,or_false] at hu;rcases hu with rfl;rfl) hl hk.below.size 22
  obtain⟨A6,c6,hv6⟩:=HA6.out.form
  subst hv6
  obtain⟨hT6,z0,z1⟩:=hk.puta HA6.out
  have HT6:=hD hT6
  have HF6:=hD (MkF.puta (g:=g) (M:=M) (vf:=vf) (vp:=vp) (vc:=vc) (vq:=vq) HA6.out)
  have HR6:=hD hr6
  clear hx hi hk hr6 hT6 HA6
  go_enter Tryz.func108,Tryz.ntmps108
  go_wp2_with (first
   | (go_at_call 139;refine HI.out.mono ?_;rintro e w2 ⟨rfl,rfl⟩)
   | (at_builtin;refine zt1 HR6.out rfl _ _ rfl rfl rfl ?_))
  go_ret
  exact⟨_,by rw [HP.out];rfl,by rw [HE.out];exact HT6.out,HF6.out⟩
end Go.Proofs.YtlmbiafloiompaaGreatDoor
