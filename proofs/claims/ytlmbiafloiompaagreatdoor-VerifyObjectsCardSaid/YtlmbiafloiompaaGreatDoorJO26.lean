/-
 The document's step (layer 11): of whatever instruction. Conditions: an object that may be,an instruction of it,a place in some predicate's code.
-/
import Derived.Test.YtlmbiafloiompaaGreatDoorJO20
import Derived.Test.YtlmbiafloiompaaGreatDoorJO21
import Derived.Test.YtlmbiafloiompaaGreatDoorJO22
import Derived.Test.YtlmbiafloiompaaGreatDoorJO23
import Derived.Test.YtlmbiafloiompaaGreatDoorJO24
import Derived.Test.YtlmbiafloiompaaGreatDoorJO25
set_option linter.unusedVariables false
set_option linter.unusedSimpArgs false
namespace Go.Proofs.YtlmbiafloiompaaGreatDoor
open Go Go.RowKit
set_option maxRecDepth 100000
theorem rstep_any {o:Ob} (ho:ObK o) {op a b c d:Int} (hi:InsK o (op,a,b,c,d)) (own:Int) (hown:0≤own∧own<(o.preds.length:Int)) {s:VSt} (hs:StW s) {va vf vp vc:Value} (w:World) (hv:ObAt w va vf vp vc o) :
  Calls Tryz.prog 32 #[.agg #[va,vf,vp,vc],.int .i64 own,.agg #[.int .i64 op,.int .i64 a,.int .i64 b,.int .i64 c,.int .i64 d],.agg (stA s)] w (StepD o own (op,a,b,c,d) s w):=by
 have hop:=hi.op
 simp only at hop
 by_cases hp:partV op=true
 ·have h6:op=6 ∨ op=7 ∨ op=8 ∨ op=9:=by
   unfold partV at hp
   simp at hp
   omega
  exact zx20 ho hi h6 own hs.ok ⟨hs.l0,hs.l1⟩ w hv
 ·have hpv:partV op=false:=by simpa using hp
  by_cases hb:s.left≠0 ∨ s.alt≠(decide (op=21) || decide (op=22))
  ·exact rstep_bad hpv hb own hs.ok w hv
  ·have hl:s.left=0:=Classical.byContradiction fun x=>hb (.inl x)
   have ha:s.alt=(decide (op=21) || decide (op=22)):=Classical.byContradiction fun x=>hb (.inr x)
   have hnp:¬ (op=6 ∨ op=7 ∨ op=8 ∨ op=9):=fun h=>hp (by rcases h with rfl | rfl | rfl | rfl <;> rfl)
   have hcs:(op=0 ∨ op=3 ∨ op=4 ∨ op=12 ∨ op=15 ∨ op=26) ∨ (op=5 ∨ op=13 ∨ op=14 ∨ op=11 ∨ op=10 ∨ op=1) ∨ (op=2 ∨ op=19 ∨ op=23 ∨ op=21 ∨ op=22 ∨ op=25 ∨ op=24 ∨ op=16) ∨ (op=17 ∨ op=18 ∨ op=20):=by omega
   rcases hcs with h | h | h | h
   ·exact rstep_FA ho hi h own hs.ok hl ha rfl w hv
   ·exact rstep_FB ho hi h own hs.ok hl ha rfl w hv
   ·exact rstep_FC ho hi h own hs.ok hl ha rfl w hv
   ·exact rstep_FD ho hi h own hown hs.ok hl ha rfl w hv
end Go.Proofs.YtlmbiafloiompaaGreatDoor
