/-
 verify's Check (layer 11): what is known of an object's code,or what is wrong first,and where. Conditions: lengths as Go's values have them,the table of names as it is laid;of a sort that keeps its word.
-/
import Derived.Test.YtlmbiafloiompaaGreatDoorJO27
import Derived.Test.YtlmbiafloiompaaGreatDoorJO28
import Derived.Test.YtlmbiafloiompaaGreatDoorJO12
import Derived.Test.YtlmbiafloiompaaGreatDoorJO05
set_option linter.unusedVariables false
set_option linter.unusedSimpArgs false
namespace Go.Proofs.YtlmbiafloiompaaGreatDoor
open Go Go.RowKit
set_option maxRecDepth 100000
theorem infoPlace:(Tryz.prog.info? 133).map (fun i=>(i.zero,i.size,i.bytes))=some (some (.agg (plC plZero).toArray),23,168):=by kernel_rfl
theorem ze11 (n:Nat) (hn:n≤1024) (w:World):(Instr.makeSlice 122 (.int .i64 (n:Int)) (.int .i64 (n:Int))).run Tryz.prog w=.ok (.slice (some ⟨w.heap.size,0,none⟩) n n) (w.alloc (.cells (plA (List.replicate n plZero)) 133)):=by
 obtain⟨i,hi1,hz0,hz1,hz2⟩:=info_parts infoPlace
 have h:=run_makeSlice (P:=Tryz.prog) w 122 133 i (.agg (plC plZero).toArray) Tryz.underlying122 hi1 hz0 .i64 .i64 (n:Int) (n:Int) (by omega) (Int.le_refl _) (by rw [hz1];simp;omega) (by rw [hz2];omega) (by omega)
 rw [hz1] at h
 simp only [Int.toNat_natCast] at h
 have e:=zm6 plC plZero 23 (by decide) rfl n
 have e2:(Value.agg (plC plZero).toArray).cells=(plC plZero).toArray:=rfl
 rw [e2,e] at h
 exact h
set_option maxHeartbeats 8000000 in
theorem zr16 {o:Ob} (hlc:o.code.length≤1024) (A1 A2 A3 A4:Option Addr) (c1 cf cp cc:Nat) (w:World) :
  Calls Tryz.prog 25 #[.agg #[.slice A1 o.atoms.length c1,.slice A2 o.funs.length cf,.slice A3 o.preds.length cp,.slice A4 o.code.length cc]] w fun e w'=>∃ gw gp,e=.returned (.pointer (some ⟨gw,0,none⟩))∧WkAt w' gw gp (.slice A1 o.atoms.length c1) (.slice A2 o.funs.length cf) (.slice A3 o.preds.length cp) (.slice A4 o.code.length cc) (List.replicate o.code.length plZero)∧Below w.heap.size w w'∧w.heap.size≤gp∧w.heap.size≤gw:=by
 have HB0:=hD (za w (.cells #[.slice A1 o.atoms.length c1,.slice A2 o.funs.length cf,.slice A3 o.preds.length cp,.slice A4 o.code.length cc] 35))
 have HX0:=hD (Box.new w 35 #[.slice A1 o.atoms.length c1,.slice A2 o.funs.length cf,.slice A3 o.preds.length cp,.slice A4 o.code.length cc])
 obtain⟨g,hg⟩:∃ g,w.heap.size=g:=⟨_,rfl⟩
 go_enter Tryz.func25,Tryz.ntmps25
 go_upto_region 1 with(fail)
 obtain⟨w1,hw1⟩:∃ w1,w.alloc (.cells #[.slice A1 o.atoms.length c1,.slice A2 o.funs.length cf,.slice A3 o.preds.length cp,.slice A4 o.code.length cc] 35)=w1:=⟨_,rfl⟩
 rw [hw1] at HB0 HX0 ⊢
 rw [hg] at HX0
 clear hw1
 refine wp_region_noPanic ?_
 refine zt 99 (fun w'=>w'.cell? ⟨g,0,none⟩=some (.slice A1 o.atoms.length c1)∧w'.cell? ⟨g,1,none⟩=some (.slice A2 o.funs.length cf)∧w'.cell? ⟨g,2,none⟩=some (.slice A3 o.preds.length cp)∧w'.cell? ⟨g,3,none⟩=some (.slice A4 o.code.length cc)) (by kernel_rfl) ?_ (fun hHeld=>?_)
 ·exact⟨HX0.out.cell 0,HX0.out.cell 1,HX0.out.cell 2,HX0.out.cell 3⟩
 change wpAnyT _ _ _ _ _ _ _ _ _ w1.drew
 replace hHeld:w1.drew.cell? ⟨g,0,none⟩=some (.slice A1 o.atoms.length c1)∧w1.drew.cell? ⟨g,1,none⟩=some (.slice A2 o.funs.length cf)∧w1.drew.cell? ⟨g,2,none⟩=some (.slice A3 o.preds.length cp)∧w1.drew.cell? ⟨g,3,none⟩=some (.slice A4 o.code.length cc):=hHeld
 have HX1:=hD HX0.out.drew
 have HB1:=hD (bel_dn HB0.out 1)
 change Hid (Below w.heap.size w w1.drew) at HB1
 have hgd:g<w1.drew.heap.size:=HX1.out.lt
 generalize w1.drew=w2 at hHeld HX1 HB1 hgd ⊢
 refine tS (i:=0) (v:=?_) rfl ?_ hHeld ?_
 rotate_left
 ·intro w hSw
  try dsimp only at hSw
  obtain⟨h1,h2,h3,h4⟩:=hSw
  go_simp
  try with_reducible rfl
 try simp only [qA,qB,qC,Act.put,qD,qE,qF]
 refine tP (i:=1) (v:=?_) rfl ?_ ?_
 rotate_left
 ·(intro w hSw;(try dsimp only at hSw);go_simp;try with_reducible rfl)
 try simp only [qA,qB,qC,Act.put,qD,qE,qF]
 refine tS (i:=2) (v:=?_) rfl ?_ hHeld ?_
 rotate_left
 ·intro w hSw
  try dsimp only at hSw
  obtain⟨h1,h2,h3,h4⟩:=hSw
  go_simp
  try with_reducible rfl
 try simp only [qA,qB,qC,Act.put,qD,qE,qF]
 refine tP (i:=3) (v:=?_) rfl ?_ ?_
 rotate_left
 ·(intro w hSw;(try dsimp only at hSw);go_simp;try with_reducible rfl)
 try simp only [qA,qB,qC,Act.put,qD,qE,qF]
 have hmk:=ze11 o.code.length hlc w2
 refine wT1 (i:=4) (by kernel_rfl) rfl fun K hK=>?_
 go_simp
 have HX2:=hD (HX1.out.alloc (.cells (plA (List.replicate o.code.length plZero)) 133))
 have HP2:=hD (Box.new w2 133 (plA (List.replicate o.code.length plZero)))
 have HB2:=hD (HB1.out.alloc HB1.out.size (.cells (plA (List.replicate o.code.length plZero)) 133))
 refine hK.out _ _ (fun _=>?_) (fun hHeld2=>?_)
 ·exact⟨HX2.out.cell 0,HX2.out.cell 1,HX2.out.cell 2,HX2.out.cell 3⟩
 replace hHeld:=hHeld2 (by decide)
 clear hHeld2 hK K
 try simp only [qA,qB,qC,Act.put,qD,qE,qF]
 clear hmk
 generalize hPA:plA (List.replicate o.code.length plZero)=PA at HX2 HP2 HB2 hHeld ⊢
 refine tP (i:=5) (v:=?_) rfl ?_ ?_
 rotate_left
 ·(intro w hSw;(try dsimp only at hSw);go_simp;try with_reducible rfl)
 try simp only [qA,qB,qC,Act.put,qD,qE,qF]
 refine wT1 (i:=6) (by kernel_rfl) rfl fun K hK=>?_
 go_simp
 have HX3:=hD (HX2.out.alloc (.cells #[.slice A1 o.atoms.length c1,.slice A2 o.funs.length cf,.slice A3 o.preds.length cp,.slice A4 o.code.length cc,.slice (some ⟨w2.heap.size,0,none⟩) o.code.length o.code.length] 124))
 have HP3:=hD (HP2.out.alloc (.cells #[.slice A1 o.atoms.length c1,.slice A2 o.funs.length cf,.slice A3 o.preds.length cp,.slice A4 o.code.length cc,.slice (some ⟨w2.heap.size,0,none⟩) o.code.length o.code.length] 124))
 have HK3:=hD (Box.new (w2.alloc (.cells PA 133)) 124 #[.slice A1 o.atoms.length c1,.slice A2 o.funs.length cf,.slice A3 o.preds.length cp,.slice A4 o.code.length cc,.slice (some ⟨w2.heap.size,0,none⟩) o.code.length o.code.length])
 have HB3:=hD (HB2.out.alloc HB2.out.size (.cells #[.slice A1 o.atoms.length c1,.slice A2 o.funs.length cf,.slice A3 o.preds.length cp,.slice A4 o.code.length cc,.slice (some ⟨w2.heap.size,0,none⟩) o.code.length o.code.length] 124))
 refine hK.out _ _ (fun _=>?_) (fun hHeld2=>?_)
 ·exact⟨HX3.out.cell 0,HX3.out.cell 1,HX3.out.cell 2,HX3.out.cell 3⟩
 replace hHeld:=hHeld2 (by decide)
 clear hHeld2 hK K
 try simp only [qA,qB,qC,Act.put,qD,qE,qF]
 refine tP (i:=7) (v:=?_) rfl ?_ ?_
 rotate_left
 ·(intro w hSw;(try dsimp only at hSw);go_simp;try with_reducible rfl)
 try simp only [qA,qB,qC,Act.put,qD,qE,qF]
 refine zn (by kernel_rfl) (NoPanic.normal ?_) _
 go_wp2
 go_ret
 have hsz:=HB1.out.size
 refine⟨_,w2.heap.size,rfl,⟨?_,?_⟩,?_,by omega,by omega⟩
 ·rw [List.length_replicate]
  have h:=HK3.out
  rw [World.size_alloc] at h
  exact h
 ·rw [hPA]
  exact HP3.out
 ·first | exact HB3.out | (rw [hg];exact HB3.out) | (rw [← hg];exact HB3.out)
/-! What Check says,in the document's words. -/
def stSs (s:VSt):List Value:=(stA s).toList
def CheckW (w:World) (o:Ob) (e:Ending) (w':World):Prop:=
 ∃ vs vn,e=.returned (.tuple #[.agg #[vs,vn],.int .i64 (verifyOf o).2.2.1,.int .i64 (verifyOf o).2.2.2])∧CellsAt w' vs (verifyOf o).1.length ((verifyOf o).1.flatMap stSs)∧CellsAt w' vn (verifyOf o).2.1.length ((verifyOf o).2.1.flatMap ndC)∧Below w.heap.size w w'
theorem zi7 {w w':World} {o:Ob} {c n:Int} (h:verifyOf o=([],[],c,n)) (hb:Below w.heap.size w w'):CheckW w o (.returned (.tuple #[.agg #[.slice none 0 0,.slice none 0 0],.int .i64 c,.int .i64 n])) w':=
 ⟨.slice none 0 0,.slice none 0 0,by rw [h],by rw [h];exact .inl ⟨rfl,rfl,_,_,rfl⟩,by rw [h];exact .inl ⟨rfl,rfl,_,_,rfl⟩,hb⟩
theorem zk17 {o:Ob} (h:checkOf o≠0):verifyOf o=([],[],checkOf o,-1):=by unfold verifyOf;rw [if_pos h]
theorem v_none {o:Ob} (h:checkOf o=0) (h2:o.preds.any noneP=true):verifyOf o=([],[],12,-1):=by unfold verifyOf;rw [if_neg (fun x=>x h),if_pos (by exact h2)]
theorem v_bad {o:Ob} {m:Nat} (h:checkOf o=0) (h2:o.preds.any noneP=false) (h3:walkV o o.code.length 0 (startV o) []=.error m):verifyOf o=([],[],14,(m:Int)):=by
 have h2':¬ (o.preds.any (fun p=>decide (p.2.2=65535))=true):=by
  intro x
  have:o.preds.any noneP=true:=x
  rw [h2] at this
  cases this
 unfold verifyOf
 rw [if_neg (fun x=>x h),if_neg h2',h3]
theorem v_ok {o:Ob} {l:List VSt} (h:checkOf o=0) (h2:o.preds.any noneP=false) (h3:walkV o o.code.length 0 (startV o) []=.ok l):verifyOf o=(l,needsV o o.code.length,0,-1):=by
 have h2':¬ (o.preds.any (fun p=>decide (p.2.2=65535))=true):=by
  intro x
  have:o.preds.any noneP=true:=x
  rw [h2] at this
  cases this
 unfold verifyOf
 rw [if_neg (fun x=>x h),if_neg h2',h3]
theorem ents_of {o:Ob} (h:checkOf o=0) (h2:o.preds.any noneP=false):(∀ q ∈ o.preds,0≤q.2.2∧q.2.2<(o.code.length:Int))∧(o.preds.map (·.2.2)).Nodup:=by
 have hn:∀ q ∈ o.preds,q.2.2≠65535:=fun q hq e=>by
  have:o.preds.any noneP=true:=List.any_eq_true.2 ⟨q,hq,decide_eq_true e⟩
  rw [h2] at this
  cases this
 unfold checkOf at h
 split at h
 ·exact absurd h (by decide)
 ·split at h
  ·exact absurd h (by decide)
  ·split at h
   ·exact absurd h (by decide)
   ·split at h
    ·exact absurd h (by decide)
    ·rename_i h4
     have h5:entsOk o.code.length (o.preds.map (·.2.2))=true:=by
      cases hx:entsOk o.code.length (o.preds.map (·.2.2)) with
      | true=>rfl
      | false=>exact absurd hx h4
     unfold entsOk at h5
     rw [Bool.and_eq_true,decide_eq_true_eq] at h5
     refine⟨fun q hq=>?_,?_⟩
     ·have:=List.all_eq_true.1 h5.1 q.2.2 (List.mem_map.2 ⟨q,hq,rfl⟩)
      unfold entryOk at this
      rw [decide_eq_true_eq] at this
      rcases this with x | x
      ·exact absurd x (hn q hq)
      ·exact x
     ·have hf:(o.preds.map (·.2.2)).filter (fun e=>decide (e≠65535))=o.preds.map (·.2.2):=List.filter_eq_self.2 (fun e he=>by
       obtain⟨q,hq,rfl⟩:=List.mem_map.1 he
       simpa using hn q hq)
      have:=h5.2
      rw [hf] at this
      exact this
theorem zk14 {o:Ob} {l:List VSt} (h:walkV o o.code.length 0 (startV o) []=.ok l) (n:Nat) (hn:n<o.code.length):∀ t ∈ followV n (o.code.getD n (0,0,0,0,0)),(n:Int)<t∧t<(o.code.length:Int):=by
 obtain⟨h1,_⟩:=walk_ok _ 0 _ _ _ h (fun j p hj hp=>.inl (zh12 hj hp)) n (Nat.zero_le _) (by omega)
 have hs:=stopV_le o (n:Int)
 generalize o.code.getD n (0,0,0,0,0)=i at h1
 unfold leadsV at h1
 rw [Bool.and_eq_true] at h1
 have hlab:∀ t ∈ labsV i,(n:Int)<t∧t<(o.code.length:Int):=fun t ht=>by
  have h4:=List.all_eq_true.1 h1.2 t ht
  have h5:(n:Int)<t∧t<stopV o (n:Int):=by simpa using h4
  omega
 intro t ht
 unfold followV at ht
 split at ht
 ·exact hlab t ht
 ·split at ht
  ·cases ht
  ·rename_i _ h2
   have hon:onV i.1=true:=by
    cases hx:onV i.1 with
    | true=>rfl
    | false=>exact absurd (.inr hx) h2
   have h3:=h1.1
   rw [hon] at h3
   have h4:(n:Int)+1<stopV o (n:Int):=by simpa using h3
   rw [List.mem_singleton] at ht
   subst ht
   omega
theorem zg13 {P:Program} {fn:Func} {Q:Ending→World→Prop} {T:Array Value} {w2:World} {G:Nat} {t:TypeId} {z0 z1 a b x y:Value} (hb:Box w2 G t #[z0,z1])
  (hres:∀ W:World,W.cell? ⟨G,0,none⟩=some a→W.cell? ⟨G,1,none⟩=some b→(results fn T).run P W=.ok (.tuple #[.agg #[a,b],x,y]) W)
  (hQ:∀ W:World,Box W G t #[a,b]→Fr (fun k=>k=G) w2 W→Q (.returned (.tuple #[.agg #[a,b],x,y])) W) :
  bodyPost P fn Q .ret { tmps:=T,defers:=[] } ((w2.setCell ⟨G,0,none⟩ a).setCell ⟨G,1,none⟩ b):=by
 have h4:Box ((w2.setCell ⟨G,0,none⟩ a).setCell ⟨G,1,none⟩ b) G t #[a,b]:=by
  have:=(hb.set_ 0 a).set_ 1 b
  simpa using this
 have hf:Fr (fun k=>k=G) w2 ((w2.setCell ⟨G,0,none⟩ a).setCell ⟨G,1,none⟩ b):=
  ((Fr.refl (fun b=>b=G) w2).setCell (p:=⟨G,0,none⟩) (.inl rfl) _).setCell (p:=⟨G,1,none⟩) (.inl rfl) _
 exact bodyPost_ret (hres _ (h4.cell 0) (h4.cell 1)) rfl (hQ _ h4 hf)
theorem CellsAt.frV {w w':World} {S:Nat→Prop} {v:Value} {n:Nat} {cs:List Value} (h:CellsAt w v n cs) (hf:Fr S w w') (hn:∀ k,v.ownBlock=some k→¬ S k):CellsAt w' v n cs:=by
 rcases h with h | ⟨b,off,c,rfl,hl,hc⟩
 ·exact .inl h
 ·exact .inr ⟨b,off,c,rfl,Nat.lt_of_lt_of_le hl hf.size,fun k u hk=>(World.cell?_of_block (w:=w) (hf.block b hl (hn b rfl))).trans (hc k u hk)⟩
theorem zq19 {o:Ob} {gp:Nat} {r:Except Nat (Nat × List VPl)} {e:Ending} {w':World} (h:match r with
  | .error m=>e=.returned (.int .i64 (m:Int))
  | .ok (m,P)=>if m<o.code.length then e=.returned (.int .i64 (m:Int)) else e=.returned (.int .i64 (-1))∧Box w' gp 133 (plA P)∧PlW P∧P.length=o.code.length):∃ a:Int,e=.returned (.int .i64 a):=by
 cases r with
 | error m=>exact⟨_,h⟩
 | ok q=>
  obtain⟨m,P⟩:=q
  simp only at h
  split at h
  ·exact⟨_,h⟩
  ·exact⟨_,h.1⟩
theorem zr19 {o:Ob} {L:List (ByteArray × Int × Int)} (hp:L.Perm o.preds) (hs:L.Pairwise (fun p q=>p.2.2<q.2.2)) (hlt:∀ q ∈ o.preds,0≤q.2.2∧q.2.2<(o.code.length:Int)) {gp:Nat} {a:Int} {w':World} (h:match faultP o L 0 (List.replicate o.code.length plZero) with
  | .error m=>(Ending.returned (.int .i64 a))=.returned (.int .i64 (m:Int))
  | .ok (m,P)=>if m<o.code.length then(Ending.returned (.int .i64 a))=.returned (.int .i64 (m:Int)) else(Ending.returned (.int .i64 a))=.returned (.int .i64 (-1))∧Box w' gp 133 (plA P)∧PlW P∧P.length=o.code.length) :
  (∃ m:Nat,a=(m:Int)∧walkV o o.code.length 0 (startV o) []=.error m) ∨ (∃ P:List VPl,a = -1∧walkV o o.code.length 0 (startV o) []=.ok (P.map (·.s))∧Box w' gp 133 (plA P)∧PlW P∧P.length=o.code.length):=by
 have hv:=progV_eq hp hs hlt
 unfold progV at hv
 cases hf:faultP o L 0 (List.replicate o.code.length plZero) with
 | error m=>
  rw [hf] at h hv
  simp only at h hv
  injection h with h
  injection h with _ h
  exact .inl ⟨m,h,hv.symm⟩
 | ok q=>
  obtain⟨m,P⟩:=q
  rw [hf] at h hv
  simp only at h hv
  by_cases hm:m<o.code.length
  ·rw [if_pos hm] at h hv
   injection h with h
   injection h with _ h
   exact .inl ⟨m,h,hv.symm⟩
  ·rw [if_neg hm] at h hv
   obtain⟨h1,h2⟩:=h
   injection h1 with h1
   injection h1 with _ h1
   exact .inr ⟨P,h1,hv.symm,h2⟩
end Go.Proofs.YtlmbiafloiompaaGreatDoor
