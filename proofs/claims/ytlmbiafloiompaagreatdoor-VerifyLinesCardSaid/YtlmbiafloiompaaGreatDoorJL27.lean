/-
 The document's step (layer 11): of whatever instruction. Conditions: an object that may be,an instruction of it,a place in some predicate's code.
-/
import Derived.Test.YtlmbiafloiompaaGreatDoorJL22
import Derived.Test.YtlmbiafloiompaaGreatDoorJL23
import Derived.Test.YtlmbiafloiompaaGreatDoorJL24
import Derived.Test.YtlmbiafloiompaaGreatDoorJL25
import Derived.Test.YtlmbiafloiompaaGreatDoorJL26
namespace Go.Proofs.YtlmbiafloiompaaGreatDoor
open Go Go.RowKit
set_option linter.unusedVariables false
set_option linter.unusedSimpArgs false
set_option maxRecDepth 100000
theorem rstep_any {o:Ob} (ho:ObK o) {op a b c d:Int} (hi:InsK o (op,a,b,c,d)) (own:Int) (hown:0≤own∧own<(o.preds.length:Int)) {s:VSt} (hs:StW s) {va vf vp vc:Value} (w:World) (hv:ObAt w va vf vp vc o) :
  Calls Tryz.prog 32 #[.agg #[va,vf,vp,vc],.int .i64 own,.agg #[.int .i64 op,.int .i64 a,.int .i64 b,.int .i64 c,.int .i64 d],.agg (stA s)] w (StepD o own (op,a,b,c,d) s w):=by
 have hop:=hi.op
 simp only at hop
 have hcs:op=0 ∨ op=1 ∨ op=2 ∨ op=3 ∨ op=4 ∨ op=5 ∨ op=6 ∨ op=7 ∨ op=8 ∨ op=9 ∨ op=10 ∨ op=11 ∨ op=12 ∨ op=13 ∨ op=14 ∨ op=15 ∨ op=16 ∨ op=17 ∨ op=18 ∨ op=19 ∨ op=20 ∨ op=21 ∨ op=22 ∨ op=23 ∨ op=24 ∨ op=25 ∨ op=26:=by omega
 by_cases hp:partV op=true
 ·have h6:op=6 ∨ op=7 ∨ op=8 ∨ op=9:=by
   unfold partV at hp
   simp at hp
   omega
  rcases h6 with rfl | rfl | rfl | rfl
  ·exact rstep_6 ho hi own hs.ok ⟨hs.l0,hs.l1⟩ w hv
  ·exact rstep_7 ho hi own hs.ok ⟨hs.l0,hs.l1⟩ w hv
  ·exact rstep_8 ho hi own hs.ok ⟨hs.l0,hs.l1⟩ w hv
  ·exact rstep_9 ho hi own hs.ok ⟨hs.l0,hs.l1⟩ w hv
 ·have hpv:partV op=false:=by simpa using hp
  by_cases hb:s.left≠0 ∨ s.alt≠(decide (op=21) || decide (op=22))
  ·exact rstep_bad hpv hb own hs.ok w hv
  ·have hl:s.left=0:=Classical.byContradiction fun x=>hb (.inl x)
   have ha:s.alt=(decide (op=21) || decide (op=22)):=Classical.byContradiction fun x=>hb (.inr x)
   rcases hcs with rfl | rfl | rfl | rfl | rfl | rfl | rfl | rfl | rfl | rfl | rfl | rfl | rfl | rfl | rfl | rfl | rfl | rfl | rfl | rfl | rfl | rfl | rfl | rfl | rfl | rfl | rfl
   ·exact rstep_0 ho hi own hs.ok hl (ha.trans (by decide)) w hv
   ·exact rstep_1 ho hi own hs.ok hl (ha.trans (by decide)) w hv
   ·exact rstep_2 ho hi own hs.ok hl (ha.trans (by decide)) w hv
   ·exact rstep_3 ho hi own hs.ok hl (ha.trans (by decide)) w hv
   ·exact rstep_4 ho hi own hs.ok hl (ha.trans (by decide)) w hv
   ·exact rstep_5 ho hi own hs.ok hl (ha.trans (by decide)) w hv
   ·exact absurd rfl hp
   ·exact absurd rfl hp
   ·exact absurd rfl hp
   ·exact absurd rfl hp
   ·exact rstep_10 ho hi own hs.ok hl (ha.trans (by decide)) w hv
   ·exact rstep_11 ho hi own hs.ok hl (ha.trans (by decide)) w hv
   ·exact rstep_12 ho hi own hs.ok hl (ha.trans (by decide)) w hv
   ·exact rstep_13 ho hi own hs.ok hl (ha.trans (by decide)) w hv
   ·exact rstep_14 ho hi own hs.ok hl (ha.trans (by decide)) w hv
   ·exact rstep_15 ho hi own hs.ok hl (ha.trans (by decide)) w hv
   ·exact rstep_16 ho hi own hs.ok hl (ha.trans (by decide)) w hv
   ·exact rstep_17 ho hi own hs.ok hl (ha.trans (by decide)) w hv
   ·exact rstep_18 ho hi own hs.ok hl (ha.trans (by decide)) w hv
   ·exact rstep_19 ho hi own hs.ok hl (ha.trans (by decide)) w hv
   ·exact rstep_20 ho hi own hown hs.ok hl (ha.trans (by decide)) w hv
   ·exact rstep_21 ho hi own hs.ok hl (ha.trans (by decide)) w hv
   ·exact rstep_22 ho hi own hs.ok hl (ha.trans (by decide)) w hv
   ·exact rstep_23 ho hi own hs.ok hl (ha.trans (by decide)) w hv
   ·exact rstep_24 ho hi own hs.ok hl (ha.trans (by decide)) w hv
   ·exact rstep_25 ho hi own hs.ok hl (ha.trans (by decide)) w hv
   ·exact rstep_26 ho hi own hs.ok hl (ha.trans (by decide)) w hv
end Go.Proofs.YtlmbiafloiompaaGreatDoor
