/-
 The statement's To: an object as the program has it,in new memory. Condition: at most 2000 of each.
-/
import Derived.Test.YtlmbiafloiompaaGreatDoorJL05
namespace Go.Proofs.YtlmbiafloiompaaGreatDoor
open Go Go.RowKit Go.WideShapes Go.ChangeShapes
set_option linter.unusedVariables false
set_option linter.unusedSimpArgs false
theorem app_src {t e:TypeId} {size bytes:Nat} (T:SlT t e size bytes) {wr:World} {base n m:Nat} {v u:Value} {xs news:List Value} (hown:wr.ownsRow base e size v n xs) (hu:CellsAt wr u m news) (hl:news.length=m * size)
  (h1:∀ u ∈ news,u.oneCell'=true) (hn:n+m≤1000000) (hbase:base≤wr.heap.size) (hnil:∀ k c,u=.slice none k c→c=0) (ty:TypeId) :
  ∃ v' w',(Builtin.append_ #[t,t] ty #[v,u]).run Tryz.prog wr=.ok v' w'∧Hid (App wr w' base e size v v' (n+m) (xs ++ news)):=by
 obtain⟨z,hi,hzs⟩:=T.info
 obtain⟨i,hi1,hz0,hz1,hz2⟩:=info_parts hi
 have hT:=T.pos
 have hsm:=T.small
 have hb:(n+m) * bytes≤140737488355328:=Nat.le_trans (Nat.mul_le_mul hn hsm) (by decide)
 have fin:∀ (ad:Addr) c,u=.slice (some ad) m c→(∀ j x,news[j]?=some x→wr.cell? (ad.add j)=some x)→∃ v' w',(Builtin.append_ #[t,t] ty #[v,u]).run Tryz.prog wr=.ok v' w'∧Hid (App wr w' base e size v v' (n+m) (xs ++ news)):=by
  intro ad c hu' hc
  subst hu'
  obtain⟨v',w',hr,h2,h3,_,h5⟩:=run_append_own_at (P:=Tryz.prog) wr base t ty e i z size bytes T.und hi1 hz0 hz1 hz2 hzs T.pos v n xs hown ad m c news hl hc h1 (by unfold maxLen;omega) hb hbase
  exact⟨v',w',hr,hD ⟨h2,Fr.of_grown h3 fun _ _ e=>e,h5.imp id fun h=>⟨_,h,Nat.le_refl _⟩,zc1 h2 |>.imp fun _ ⟨c,h,_⟩=>⟨c,h⟩⟩⟩
 rcases hu with⟨rfl,rfl,A,c,rfl⟩ | ⟨b,off,c,rfl,hlt,hc⟩
 ·cases A with
  | none=>
   have hr:=run_append_owned_none (P:=Tryz.prog) wr base t ty e i size T.und hi1 v n xs hown
   obtain rfl:=hnil 0 c rfl
   exact⟨v,wr,hr,hD ⟨by simpa using hown,Fr.refl _ _,.inl rfl,zc1 hown |>.imp fun _ ⟨c,h,_⟩=>⟨c,h⟩⟩⟩
  | some ad=>exact fin ad c rfl (fun j x hj=>by simp at hj)
 ·exact fin ⟨b,off,none⟩ c rfl (fun j x hj=>by rw [add_plain];exact hc j x hj)
structure Tq (w wr:World) (g1 g2 g3:Nat) (us:Array Value) (va vf vp vc:Value) (la:List ByteArray) (lf:List (ByteArray × Int)) (lp:List (ByteArray × Int × Int)) (lc:List Ins):Prop where
 b1:Box wr g1 27 us
 b2:Box wr g2 35 #[.slice none 0 0,.slice none 0 0,.slice none 0 0,.slice none 0 0]
 b3:Box wr g3 35 #[va,vf,vp,vc]
 ra:wr.ownsRow w.heap.size 9 1 va la.length (la.map Value.string)
 rf:wr.ownsRow w.heap.size 61 2 vf lf.length (lf.flatMap funC)
 rp:wr.ownsRow w.heap.size 64 3 vp lp.length (lp.flatMap predC)
 rc:wr.ownsRow w.heap.size 65 5 vc lc.length (lc.flatMap insC)
 below:Below w.heap.size w wr
 lt:w.heap.size≤g1∧w.heap.size≤g2∧w.heap.size≤g3∧g1≠g3∧g2≠g3
section
variable {w wr w' w6:World} {g1 g2 g3:Nat} {us:Array Value} {va vf vp vc v6:Value} {la:List ByteArray} {lf:List (ByteArray × Int)} {lp:List (ByteArray × Int × Int)} {lc:List Ins}
theorem Tq.up (h:Tq w wr g1 g2 g3 us va vf vp vc la lf lp lc) (hb:Below wr.heap.size wr w'):Tq w w' g1 g2 g3 us va vf vp vc la lf lp lc:=
 ⟨h.b1.below hb h.b1.lt,h.b2.below hb h.b2.lt,h.b3.below hb h.b3.lt,own_fr (S:=fun _=>False) h.ra (Fr.of_below hb) (fun _ _ x=>x),own_fr (S:=fun _=>False) h.rf (Fr.of_below hb) (fun _ _ x=>x),
  own_fr (S:=fun _=>False) h.rp (Fr.of_below hb) (fun _ _ x=>x),own_fr (S:=fun _=>False) h.rc (Fr.of_below hb) (fun _ _ x=>x),h.below.trans (hb.mono h.below.size),h.lt⟩
end
theorem zo2 {P:Program} {ops:Array Oper} {o:Oper} {a:Act} {w:World} {K:Act→World→Prop} {Q:Exit→Act→World→Prop} {E:Prop} {t:TypeId} {len:Nat} {parts:Array (Nat × Value)} {v':Value} {w':World}
  (hr:(Instr.buildSlice t len parts).run P w=.ok v' w') (hgd:o.guard=none) (ps:Array (Nat × Operand)) (ho:o.op=.buildSlice t len ps) (hp:(ps.map fun(i,x)=>(i,a.eval x))=parts) (h:K (a.put o.dst v') w') :
  if Region.wanted o (yielded ops a.tmps)=true then Oper.wp P o a w K Q else E:=by
 have hw:Region.wanted o (yielded ops a.tmps)=true:=by simp [Region.wanted,hgd]
 rw [if_pos hw]
 subst hp
 unfold Oper.wp execOp
 simp only [ho,Sem.run_bind,Sem.run_pure,Result.andThen_ok,hr]
 exact h
theorem ret_one4 {P:Program} {fn:Func} {Q:Ending→World→Prop} {T:Array Value} {w2:World} {G:Nat} {t:TypeId} {z0 z1 z2 z3 a b c d:Value} (hb:Box w2 G t #[z0,z1,z2,z3])
  (hres:∀ W:World,W.cell? ⟨G,0,none⟩=some a→W.cell? ⟨G,1,none⟩=some b→W.cell? ⟨G,2,none⟩=some c→W.cell? ⟨G,3,none⟩=some d→(results fn T).run P W=.ok (.agg #[a,b,c,d]) W)
  (hQ:∀ W:World,Box W G t #[a,b,c,d]→Fr (fun k=>k=G) w2 W→Q (.returned (.agg #[a,b,c,d])) W) :
  bodyPost P fn Q .ret { tmps:=T,defers:=[] } ((((w2.setCell ⟨G,0,none⟩ a).setCell ⟨G,1,none⟩ b).setCell ⟨G,2,none⟩ c).setCell ⟨G,3,none⟩ d):=by
 have h4:Box ((((w2.setCell ⟨G,0,none⟩ a).setCell ⟨G,1,none⟩ b).setCell ⟨G,2,none⟩ c).setCell ⟨G,3,none⟩ d) G t #[a,b,c,d]:=by
  have:=(((hb.set_ 0 a).set_ 1 b).set_ 2 c).set_ 3 d
  simpa using this
 have hf:Fr (fun k=>k=G) w2 ((((w2.setCell ⟨G,0,none⟩ a).setCell ⟨G,1,none⟩ b).setCell ⟨G,2,none⟩ c).setCell ⟨G,3,none⟩ d):=
  ((((Fr.refl (fun b=>b=G) w2).setCell (p:=⟨G,0,none⟩) (.inl rfl) _).setCell (p:=⟨G,1,none⟩) (.inl rfl) _).setCell (p:=⟨G,2,none⟩) (.inl rfl) _).setCell (p:=⟨G,3,none⟩) (.inl rfl) _
 exact bodyPost_ret (hres _ (h4.cell 0) (h4.cell 1) (h4.cell 2) (h4.cell 3)) rfl (hQ _ h4 hf)
theorem own_nil {w:World} {base:Nat} {e:TypeId} {size n:Nat} {v:Value} {xs:List Value} (h:w.ownsRow base e size v n xs):∀ k c,v=.slice none k c→c=0:=by
 intro k c hv
 rcases h.2 with⟨h0,_⟩ | ⟨g,cap,cur,he,_⟩
 ·rw [h0] at hv
  injection hv with _ _ h3
  exact h3.symm
 ·rw [he] at hv
  injection hv with h1
  cases h1
theorem strs_one (l:List ByteArray):∀ u ∈ l.map Value.string,u.oneCell'=true:=by
 intro u hu
 obtain⟨s,_,rfl⟩:=List.mem_map.1 hu
 rfl
end Go.Proofs.YtlmbiafloiompaaGreatDoor
