/-
  9 texts in one (ObjY ObjYB VerX VerXB VerR VerNA VerNB VerNC VDocH). Conditions: those of each theorem.
-/
import Derived.Test.YtlmbiafloiompaaGreatDoorJO05
import Derived.Shelf.Abstract
import Derived.Test.YtlmbiafloiompaaGreatDoorJO18
import Derived.Test.YtlmbiafloiompaaGreatDoorJO09
import Derived.StillTailTactics
import Derived.Test.YtlmbiafloiompaaGreatDoorJO12
set_option linter.unusedVariables false
set_option linter.unusedSimpArgs false
namespace Go.Proofs.YtlmbiafloiompaaGreatDoor
open Go Go.RowKit Go.WideShapes Go.ChangeShapes
theorem find_drop (name:ByteArray) (arity:Int) (l:List (ByteArray × Int × Int)) (k:Nat) (h:k<l.length) :
  findFrom name arity k (l.drop k)=if l[k].1=name∧l[k].2.1=arity then(k:Int) else findFrom name arity (k+1) (l.drop (k+1)):=by
 rw [List.drop_eq_getElem_cons h,findFrom]
theorem zg16 {a b:ByteArray} (h:a=b):(a.toList == b.toList)=true:=by rw [h];simp
theorem zl15 (fn:Fn) (first cap:Array Value) (w:World):(Instr.makeFunc fn first cap).run Tryz.prog w=.ok (.func fn first cap) w:=rfl
def hitB (name:ByteArray) (arity:Int) (p:ByteArray × Int × Int):Bool:=decide (p.1=name∧p.2.1=arity)
theorem zd16 (name:ByteArray) (arity:Int) (g4 g5:Nat) (s:ByteArray) (n m:Int) (w:World) (h4:w.cell? ⟨g4,0,none⟩=some (.string name)) (h5:w.cell? ⟨g5,0,none⟩=some (.int .i64 arity)) (hl4:g4<w.heap.size) (hl5:g5<w.heap.size) :
  Calls Tryz.prog 135 #[.agg #[.string s,.int .i64 n,.int .i64 m],.pointer (some ⟨g4,0,none⟩),.pointer (some ⟨g5,0,none⟩)] w fun e w'=>e=.returned (.bool (hitB name arity (s,n,m)))∧Below w.heap.size w w':=by
 have HB:=hD (za w (.cells #[.string s,.int .i64 n,.int .i64 m] 64))
 have c4:=((HB.out.cell (p:=⟨g4,0,none⟩) hl4).trans h4)
 have c5:=((HB.out.cell (p:=⟨g5,0,none⟩) hl5).trans h5)
 clear h4 h5
 by_cases hs:s=name
 ·have hst:=zg16 hs
  by_cases hn:n=arity
  ·have hnt:(n == arity)=true:=by simpa using hn
   have HX:Hid (hitB name arity (s,n,m)=true):=hD (decide_eq_true ⟨hs,hn⟩)
   clear hs hn
   go_enter Tryz.func135,Tryz.ntmps135
   go_wp2
   go_ret
   exact⟨by rw [HX.out];rfl,HB.out⟩
  ·have hnt:(n == arity)=false:=by simpa using hn
   have HX:Hid (hitB name arity (s,n,m)=false):=hD (decide_eq_false (fun h=>hn h.2))
   clear hs hn
   go_enter Tryz.func135,Tryz.ntmps135
   go_wp2
   go_ret
   exact⟨by rw [HX.out];rfl,HB.out⟩
 ·have hst:=zz1 hs
  have HX:Hid (hitB name arity (s,n,m)=false):=hD (decide_eq_false (fun h=>hs h.1))
  clear hs
  go_enter Tryz.func135,Tryz.ntmps135
  go_wp2
  go_ret
  exact⟨by rw [HX.out];rfl,HB.out⟩
theorem find_hit (name:ByteArray) (arity:Int) (l:List (ByteArray × Int × Int)) (k:Nat) (h:k<l.length) :
  findFrom name arity k (l.drop k)=if hitB name arity l[k]=true then(k:Int) else findFrom name arity (k+1) (l.drop (k+1)):=by
 rw [find_drop name arity l k h]
 by_cases hh:l[k].1=name∧l[k].2.1=arity
 ·rw [if_pos hh]
  exact(if_pos (decide_eq_true hh)).symm
 ·rw [if_neg hh,if_neg (by unfold hitB;rw [decide_eq_false hh];decide)]
set_option maxRecDepth 100000 in
set_option maxHeartbeats 4000000 in
theorem index_any (name:ByteArray) (arity:Int) (g4 g5:Nat) (l:List (ByteArray × Int × Int)) (hm:l.length≤1000000) (v:Value) (w:World) (hv:PredsAt w v l) (h4:w.cell? ⟨g4,0,none⟩=some (.string name)) (h5:w.cell? ⟨g5,0,none⟩=some (.int .i64 arity)) (hl4:g4<w.heap.size) (hl5:g5<w.heap.size) :
  Calls Tryz.prog 51 #[v,.func (.func 135) #[] #[.pointer (some ⟨g4,0,none⟩),.pointer (some ⟨g5,0,none⟩)]] w fun e w'=>e=.returned (.int .i64 (findFrom name arity 0 l))∧Below w.heap.size w w':=by
 obtain⟨A,c,rfl⟩:=CellsAt.form hv
 have eg:∀ args w,(callFunc 135 args).run Tryz.prog w=.ok (.enter 135 args) w:=enters_of Tryz.func135 (by kernel_rfl) rfl
 have HV:=hD hv
 have H4:=hD h4
 have H5:=hD h5
 clear hv h4 h5
 go_enter Tryz.func51,Tryz.ntmps51
 go_wp2
 go_loopw [8] (fun i wr=>∃ k:Nat,k≤l.length∧i=.int .i64 k∧Hid (findFrom name arity k (l.drop k)=findFrom name arity 0 l)∧Hid (Below w.heap.size w wr)) (fun i _=>l.length - (intOf i).toNat)
 case atStart=>exact⟨0,by omega,rfl,hD rfl,hD (Below.refl _ _)⟩
 case round=>
  obtain⟨k,hk,rfl,HF,HB⟩:=hrel
  by_cases hlt:k<l.length
  ·obtain⟨b,off,rfl,hb,hc0,hc1,hc2⟩:=zd1 HV.out k hlt
   have d0:=(HB.out.cell (p:=⟨b,off+k * 3,none⟩) hb).trans hc0
   have d1:=(HB.out.cell (p:=⟨b,off+k * 3+1,none⟩) hb).trans hc1
   have d2:=(HB.out.cell (p:=⟨b,off+k * 3+2,none⟩) hb).trans hc2
   have HST:=hD (find_hit name arity l k hlt)
   have hcl:=zd16 name arity g4 g5 l[k].1 l[k].2.1 l[k].2.2 wr ((HB.out.cell (p:=⟨g4,0,none⟩) hl4).trans H4.out) ((HB.out.cell (p:=⟨g5,0,none⟩) hl5).trans H5.out) (Nat.lt_of_lt_of_le hl4 HB.out.size) (Nat.lt_of_lt_of_le hl5 HB.out.size)
   rw [show(l[k].1,l[k].2.1,l[k].2.2)=l[k] from rfl] at hcl
   clear hc0 hc1 hc2
   generalize hitB name arity l[k]=hb' at hcl HST
   generalize l[k].1=s at d0 hcl
   generalize l[k].2.1=n at d1 hcl
   generalize l[k].2.2=m at d2 hcl
   have HCL:=hD hcl
   clear hcl
   cases hb'
   ·have HX:Hid (findFrom name arity (k+1) (l.drop (k+1))=findFrom name arity 0 l):=hD (by rw [← HF.out,HST.out,if_neg (by decide)])
    go_wp2_with (go_at_fn 135;refine HCL.out.mono ?_;rintro e w5 ⟨rfl,hb5⟩;have HB5:=hD (HB.out.trans (hb5.mono HB.out.size));clear hb5)
    go_roundw
    case rel=>exact⟨k+1,by omega,by go_num,HX,HB5⟩
    case measure=>simp [intOf];omega
   ·have HX:Hid (findFrom name arity 0 l=(k:Int)):=hD (by rw [← HF.out,HST.out,if_pos rfl])
    go_wp2_with (go_at_fn 135;refine HCL.out.mono ?_;rintro e w5 ⟨rfl,hb5⟩;have HB5:=hD (HB.out.trans (hb5.mono HB.out.size));clear hb5)
    go_ret
    exact⟨by rw [HX.out];rfl,HB5.out⟩
  ·obtain rfl:k=l.length:=by omega
   have HX:Hid (findFrom name arity 0 l = -1):=hD (by rw [← HF.out,List.drop_length];rfl)
   go_wp2
   go_ret
   exact⟨by rw [HX.out];rfl,HB.out⟩
theorem pfind_any (A1 A2 A4:Option Addr) (a c1 f c2 c c4:Nat) (l:List (ByteArray × Int × Int)) (hm:l.length≤1000000) (vp:Value) (name:ByteArray) (arity:Int) (w:World) (hv:PredsAt w vp l) :
  Calls Tryz.prog 106 #[.agg #[.slice A1 a c1,.slice A2 f c2,vp,.slice A4 c c4],.string name,.int .i64 arity] w fun e w'=>e=.returned (.int .i64 (findFrom name arity 0 l))∧Below w.heap.size w w':=by
 obtain⟨A3,c3,rfl⟩:=CellsAt.form hv
 have hmf:=zl15
 have HB3:=hD (((za w (.cells #[.slice A1 a c1,.slice A2 f c2,.slice A3 l.length c3,.slice A4 c c4] 35)).alloc (by simp) (.cells #[.string name] 9)).alloc (by simp;omega) (.cells #[.int .i64 arity] 3))
 have h4:((((w.alloc (.cells #[.slice A1 a c1,.slice A2 f c2,.slice A3 l.length c3,.slice A4 c c4] 35)).alloc (.cells #[.string name] 9)).alloc (.cells #[.int .i64 arity] 3)).cell? ⟨w.heap.size+1,0,none⟩)=some (.string name):=by
  have h:=((Box.new (w.alloc (.cells #[.slice A1 a c1,.slice A2 f c2,.slice A3 l.length c3,.slice A4 c c4] 35)) 9 #[.string name]).alloc (.cells #[.int .i64 arity] 3)).cell 0
  rw [World.size_alloc] at h
  exact h
 have h5:((((w.alloc (.cells #[.slice A1 a c1,.slice A2 f c2,.slice A3 l.length c3,.slice A4 c c4] 35)).alloc (.cells #[.string name] 9)).alloc (.cells #[.int .i64 arity] 3)).cell? ⟨w.heap.size+1+1,0,none⟩)=some (.int .i64 arity):=by
  have h:=(Box.new ((w.alloc (.cells #[.slice A1 a c1,.slice A2 f c2,.slice A3 l.length c3,.slice A4 c c4] 35)).alloc (.cells #[.string name] 9)) 3 #[.int .i64 arity]).cell 0
  rw [World.size_alloc,World.size_alloc] at h
  exact h
 have HIX:=hD (index_any name arity (w.heap.size+1) (w.heap.size+1+1) l hm (.slice A3 l.length c3) _ (CellsAt.below hv HB3.out) h4 h5 (by simp) (by simp))
 clear hv h4 h5
 go_enter Tryz.func106,Tryz.ntmps106
 go_wp2_with (go_at_call 51;refine HIX.out.mono ?_;rintro e w5 ⟨rfl,hb5⟩;have HB5:=hD (HB3.out.trans (hb5.mono HB3.out.size));clear hb5)
 go_ret
 exact⟨rfl,HB5.out⟩
end Go.Proofs.YtlmbiafloiompaaGreatDoor

namespace Go.Proofs.YtlmbiafloiompaaGreatDoor
open Go Go.RowKit
set_option maxRecDepth 100000
def noneP (p:ByteArray × Int × Int):Bool:=decide (p.2.2=65535)
theorem noneC_any (s:ByteArray) (n m:Int) (w:World) :
  Calls Tryz.prog 24 #[.agg #[.string s,.int .i64 n,.int .i64 m]] w fun e w'=>e=.returned (.bool (decide (m=65535)))∧Below w.heap.size w w':=by
 have HB:=hD (za w (.cells #[.string s,.int .i64 n,.int .i64 m] 64))
 by_cases h:m=65535
 ·have hx:decide (m=65535)=true:=decide_eq_true h
  have HX:=hD hx
  have e0:(m == 65535)=true:=by rw [beq_iff_eq];exact h
  clear hx h
  generalize decide (m=65535)=r at HX ⊢
  go_enter Tryz.func24,Tryz.ntmps24
  go_wp2
  go_ret
  exact⟨by rw [HX.out];rfl,HB.out⟩
 ·have hx:decide (m=65535)=false:=decide_eq_false h
  have HX:=hD hx
  have e0:(m == 65535)=false:=beq_eq_false_iff_ne.2 h
  clear hx h
  generalize decide (m=65535)=r at HX ⊢
  go_enter Tryz.func24,Tryz.ntmps24
  go_wp2
  go_ret
  exact⟨by rw [HX.out];rfl,HB.out⟩
set_option maxHeartbeats 4000000 in
theorem zi20 (l:List (ByteArray × Int × Int)) (hm:l.length≤1000000) (v:Value) (w:World) (hv:PredsAt w v l) :
  Calls Tryz.prog 51 #[v,.func (.func 24) #[] #[]] w fun e w'=>∃ i:Int,e=.returned (.int .i64 i)∧decide (0≤i)=l.any noneP∧Below w.heap.size w w':=by
 obtain⟨A,c,rfl⟩:=CellsAt.form hv
 have eg:∀ args w,(callFunc 24 args).run Tryz.prog w=.ok (.enter 24 args) w:=enters_of Tryz.func24 (by kernel_rfl) rfl
 have HV:=hD hv
 clear hv
 go_enter Tryz.func51,Tryz.ntmps51
 go_wp2
 go_loopw [8] (fun i wr=>∃ k:Nat,k≤l.length∧i=.int .i64 k∧Hid ((l.drop k).any noneP=l.any noneP)∧Hid (Below w.heap.size w wr)) (fun i _=>l.length - (intOf i).toNat)
 case atStart=>exact⟨0,by omega,rfl,hD rfl,hD (Below.refl _ _)⟩
 case round=>
  obtain⟨k,hk,rfl,HF,HB⟩:=hrel
  by_cases hlt:k<l.length
  ·obtain⟨b,off,rfl,hb,hc0,hc1,hc2⟩:=zd1 HV.out k hlt
   have d0:=(HB.out.cell (p:=⟨b,off+k * 3,none⟩) hb).trans hc0
   have d1:=(HB.out.cell (p:=⟨b,off+k * 3+1,none⟩) hb).trans hc1
   have d2:=(HB.out.cell (p:=⟨b,off+k * 3+2,none⟩) hb).trans hc2
   have HST:Hid ((l.drop k).any noneP=(decide (l[k].2.2=65535) || (l.drop (k+1)).any noneP)):=hD (by rw [List.drop_eq_getElem_cons hlt,List.any_cons];rfl)
   have hcl:=noneC_any l[k].1 l[k].2.1 l[k].2.2 wr
   clear hc0 hc1 hc2
   generalize decide (l[k].2.2=65535)=hb' at hcl HST
   generalize l[k].1=s at d0 hcl
   generalize l[k].2.1=n at d1 hcl
   generalize l[k].2.2=m at d2 hcl
   have HCL:=hD hcl
   clear hcl
   cases hb'
   ·have HX:Hid ((l.drop (k+1)).any noneP=l.any noneP):=hD (by rw [← HF.out,HST.out];rfl)
    go_wp2_with (go_at_fn 24;refine HCL.out.mono ?_;rintro e w5 ⟨rfl,hb5⟩;have HB5:=hD (HB.out.trans (hb5.mono HB.out.size));clear hb5)
    go_roundw
    case rel=>exact⟨k+1,by omega,by go_num,HX,HB5⟩
    case measure=>simp [intOf];omega
   ·have HX:Hid (l.any noneP=true):=hD (by rw [← HF.out,HST.out];rfl)
    go_wp2_with (go_at_fn 24;refine HCL.out.mono ?_;rintro e w5 ⟨rfl,hb5⟩;have HB5:=hD (HB.out.trans (hb5.mono HB.out.size));clear hb5)
    go_ret
    exact⟨(k:Int),rfl,by rw [HX.out];simp,HB5.out⟩
  ·obtain rfl:k=l.length:=by omega
   have HX:Hid (l.any noneP=false):=hD (by rw [← HF.out,List.drop_length];rfl)
   go_wp2
   go_ret
   exact⟨-1,rfl,by rw [HX.out];rfl,HB.out⟩
theorem noneB_any (l:List (ByteArray × Int × Int)) (hm:l.length≤1000000) (v:Value) (w:World) (hv:PredsAt w v l) :
  Calls Tryz.prog 23 #[v,.func (.func 24) #[] #[]] w fun e w'=>e=.returned (.bool (l.any noneP))∧Below w.heap.size w w':=by
 have HI:=hD (zi20 l hm v w hv)
 obtain⟨A,c,rfl⟩:=CellsAt.form hv
 generalize l.any noneP=r at HI ⊢
 clear hv
 go_enter Tryz.func23,Tryz.ntmps23
 go_wp2_with (go_at_call 51;refine HI.out.mono ?_;rintro e w5 ⟨i,rfl,hi,hb5⟩;have HB5:=hD hb5;have HII:=hD hi;clear hb5 hi)
 go_ret
 exact⟨by rw [← HII.out];rfl,HB5.out⟩
/-! The States. -/
theorem zm15 {s:VSt} (h:StOk s) (w:World):(Instr.buildSlice 46 1 #[(0,.agg (stA s))]).run Tryz.prog w=.ok (.slice (some ⟨w.heap.size,0,none⟩) 1 1) (w.alloc (.cells (stA s) 58)):=by
 obtain⟨x,env,y,left,alt,neck⟩:=s
 obtain⟨y0,y1,y2,y3,y4,y5,y6,y7,y8,y9,y10,y11,y12,y13,y14,y15,rfl⟩:=zm1 y h.y
 kernel_rfl
theorem zo4 {P:Program} {ops:Array Oper} {rest:List Oper} {o:Oper} {a:Act} {w:World} {Q:Exit→Act→World→Prop} {t:TypeId} {len:Nat} {parts:Array (Nat × Value)} {v':Value} {w':World}
  (hr:(Instr.buildSlice t len parts).run P w=.ok v' w') (hgd:o.guard=none) (ps:Array (Nat × Operand)) (ho:o.op=.buildSlice t len ps) (hp:(ps.map fun(i,x)=>(i,a.eval x))=parts)
  (h:wpList P ops Q rest (a.put o.dst v') w'):wpList P ops Q (o :: rest) a w:=by
 refine wpList_plain hgd fun K hK=>?_
 subst hp
 unfold Oper.wp execOp
 simp only [ho,Sem.run_bind,Sem.run_pure,Result.andThen_ok,hr]
 exact hK _ _ h
theorem zy7 {ops:Array Oper} {rest:List Oper} {op:Oper} {a:Act} {w:World} {Q:Exit→Act→World→Prop} (hgd:op.guard=none) (x:Operand) (ho:op.op=.load 133 x)
  (g o:Nat) (hx:a.eval x=.pointer (some ⟨g,o,none⟩)) (cs:List Value) (hb:w.rangeAt g o cs) (hs:cs.length=23)
  (h:wpList Tryz.prog ops Q rest (a.put op.dst (.agg cs.toArray)) w):wpList Tryz.prog ops Q (op :: rest) a w:=by
 obtain⟨d,hd,hd'⟩:=pl_und
 exact wpList_load_mid hgd 133 x ho g o hx cs d hb hd hd' (by rw [hs];exact zd10) h
theorem ze7 {ops:Array Oper} {rest:List Oper} {o:Oper} {a:Act} {w:World} {Q:Exit→Act→World→Prop} (hgd:o.guard=none) (x y:Operand) (ho:o.op=.store 133 x y)
  (g:Nat) (A B:Array Value) (hx:a.eval x=.pointer (some ⟨g,0,none⟩)) (hy:a.eval y=.agg A) (hb:Box w g 133 B) (h1:A.size=23) (h2:B.size=23) (hone:A.all (·.oneCell')=true)
  (h:wpList Tryz.prog ops Q rest (a.put o.dst undef) (w.setRow g A)):wpList Tryz.prog ops Q (o :: rest) a w:=
 wpList_store_row hgd 133 x y ho g A hx hy 133 B hb (by rw [h1];exact zd10) (by rw [h1,h2]) hone h
theorem app_st {wr:World} {base n:Nat} {v:Value} {xs:List Value} (hown:wr.ownsRow base 58 21 v n xs) (news:List Value) (hl:news.length=21)
  (h1:∀ u ∈ news,u.oneCell'=true) (hn:n≤1000000) (hbase:base≤wr.heap.size) (ty:TypeId) :
  ∃ v' w',(Builtin.append_ #[46,46] ty #[v,.slice (some ⟨wr.heap.size,0,none⟩) 1 1]).run Tryz.prog (wr.alloc (.cells news.toArray 58))=.ok v' w'∧Hid (App wr w' base 58 21 v v' (n+1) (xs ++ news)):=by
 have hi:∃ z,(Tryz.prog.info? 58).map (fun i=>(i.zero,i.size,i.bytes))=some (some z,21,160)∧z.cells.size=21:=⟨.agg zeroA,by kernel_rfl,rfl⟩
 obtain⟨z,hi,hzs⟩:=hi
 obtain⟨i,hi1,hz0,hz1,hz2⟩:=info_parts hi
 have hb:(n+1) * 160≤140737488355328:=Nat.le_trans (Nat.mul_le_mul (show n+1≤1000001 by omega) (Nat.le_refl 160)) (by decide)
 obtain⟨v',w',hr,h2,h3,_,h5⟩:=run_append_own_at (P:=Tryz.prog) (wr.alloc (.cells news.toArray 58)) base 46 ty 58 i z 21 160 Tryz.underlying46 hi1 hz0 hz1 hz2 hzs (by decide) v n xs
  (own_fr (S:=fun _=>False) hown ((Fr.refl _ wr).alloc _) (fun _ _ x=>x)) ⟨wr.heap.size,0,none⟩ 1 1 news (by omega) (fun j u hu=>by
   rw [Addr.add_mid,Nat.zero_add,(Box.new wr 58 news.toArray).cell j]
   simpa using hu) h1 (by unfold maxLen;omega) hb (by simp;omega)
 refine⟨v',w',hr,hD ⟨h2,?_,?_,zl h2 |>.imp fun _ ⟨c,h,_⟩=>⟨c,h⟩⟩⟩
 ·exact((Fr.refl (fun b=>v.ownBlock=some b) wr).alloc _).trans (Fr.of_grown h3 fun _ _ e=>e)
 ·rcases h5 with h5 | h5
  ·exact .inl h5
  ·exact .inr ⟨_,h5,by simp⟩
def stC (p:VPl):List Value:=(stA p.s).toList
set_option maxHeartbeats 1000000 in
theorem zd21 {w:World} {gw gp:Nat} {va vf vp vc:Value} {P:List VPl} (h:WkAt w gw gp va vf vp vc P) (hP:PlOk P) (hm:P.length≤1024) :
  Calls Tryz.prog 27 #[.pointer (some ⟨gw,0,none⟩)] w fun e w'=>∃ v,e=.returned v∧w'.ownsRow w.heap.size 58 21 v P.length (P.flatMap stC)∧Below w.heap.size w w':=by
 have HW:=hD h
 have HPo:=hD hP
 have c4:=h.wk.cell 4
 have F0:=hD (Below.refl w.heap.size w)
 have O0:Hid (w.ownsRow w.heap.size 58 21 (.slice none 0 0) 0 ((P.take 0).flatMap stC)):=hD ⟨rfl,.inl ⟨rfl,rfl⟩⟩
 clear h hP
 go_enter Tryz.func27,Tryz.ntmps27
 go_wp2
 clear c4
 go_loopw [3,5,11] (fun s _ i wr=>∃ (k:Nat) (vs:Value),k≤P.length∧i=.int .i64 k∧vs=s∧Hid (wr.ownsRow w.heap.size 58 21 vs k ((P.take k).flatMap stC))∧Hid (Below w.heap.size w wr)) (fun _ _ i _=>P.length - (intOf i).toNat)
 case atStart=>exact⟨0,_,by omega,rfl,rfl,O0,F0⟩
 obtain⟨k,vs,hk,rfl,rfl,HO,HF⟩:=hrel
 clear F0 O0
 by_cases hlt:k<P.length
 case pos=>
  have hpk:=HPo.out P[k] (List.getElem_mem hlt)
  have HRG:=hD (zc15 (HW.out.fr HF.out).pl HPo.out hlt)
  have HL:=hD (zc10 hpk)
  have H1:=hD (plC_one P[k])
  have HSZ:=hD (zh hpk)
  have HRS:Hid (∀ W g,Box W g 133 (plC P[k]).toArray→W.rangeAt g 0 (stA P[k].s).toList):=hD (fun W g hW j v hj=>by
   have hj2:j<21:=by
    have h1:=(List.getElem?_eq_some_iff.1 hj).1
    rw [Array.length_toList,zh hpk] at h1
    exact h1
   rw [hW.cell,Nat.zero_add,List.getElem?_toArray,plC_s hpk hj2,← Array.getElem?_toList]
   exact hj)
  have HBS:=hD (fun w=>zm15 hpk w)
  have HT:Hid ((P.take (k+1)).flatMap stC=(P.take k).flatMap stC ++ (stA P[k].s).toList):=hD (by
   rw [List.take_succ_eq_append_getElem hlt,List.flatMap_append]
   simp [stC])
  have HON:=hD (zu1 P[k].s)
  have hgs:=HF.out.size
  have i0:(0:Int)≤(k:Int):=by omega
  have i1:(k:Int)<(P.length:Int):=by omega
  generalize plC P[k]=pc at HRG HL H1 HRS
  generalize stA P[k].s=A at HSZ HRS HBS HT HON
  have HZB:=hD (fun zs=>((Box.new wr 133 zs).row pc.toArray))
  have HBB:=hD (fun zs=>zx (za wr (.cells zs 133)) (Nat.le_refl _) pc.toArray)
  have hpz:pc.toArray.size=23:=by rw [List.size_toArray];exact HL.out
  have HPZ:=hD hpz
  clear hpz
  go_upto_region 5 with(first | (refine zy7 rfl (.tmp 13) rfl gp (k * 23) rfl pc HRG.out HL.out ?_) | (refine ze7 rfl (.tmp 5) (.tmp 14) rfl wr.heap.size pc.toArray _ rfl rfl (Box.new wr 133 _) HPZ.out rfl H1.out ?_))
  have HX5:=hD (HZB.out #[.int .u32 0,.int .i64 0,.int .i64 0,.int .i64 0,.int .i64 0,.int .i64 0,.int .i64 0,.int .i64 0,.int .i64 0,.int .i64 0,.int .i64 0,.int .i64 0,.int .i64 0,.int .i64 0,.int .i64 0,.int .i64 0,.int .i64 0,.int .i64 0,.int .i64 0,.bool false,.bool false,.bool false,.bool false])
  have HB5:=hD (HBB.out #[.int .u32 0,.int .i64 0,.int .i64 0,.int .i64 0,.int .i64 0,.int .i64 0,.int .i64 0,.int .i64 0,.int .i64 0,.int .i64 0,.int .i64 0,.int .i64 0,.int .i64 0,.int .i64 0,.int .i64 0,.int .i64 0,.int .i64 0,.int .i64 0,.int .i64 0,.bool false,.bool false,.bool false,.bool false])
  obtain⟨w5,hw5⟩:∃ w5,(wr.alloc (.cells #[.int .u32 0,.int .i64 0,.int .i64 0,.int .i64 0,.int .i64 0,.int .i64 0,.int .i64 0,.int .i64 0,.int .i64 0,.int .i64 0,.int .i64 0,.int .i64 0,.int .i64 0,.int .i64 0,.int .i64 0,.int .i64 0,.int .i64 0,.int .i64 0,.int .i64 0,.bool false,.bool false,.bool false,.bool false] 133)).setRow wr.heap.size pc.toArray=w5:=⟨_,rfl⟩
  rw [hw5] at HX5 HB5 ⊢
  clear hw5
  obtain⟨g5,hg5⟩:∃ g5,wr.heap.size=g5:=⟨_,rfl⟩
  have HG5:=hD hg5
  rw [hg5] at HX5 ⊢
  clear hg5
  have HF5:=hD (HF.out.trans (HB5.out.mono hgs))
  have HO5:=hD (own_fr (S:=fun _=>False) HO.out (Fr.of_below HB5.out) (fun _ _ x=>x))
  have HRA:=hD (HRS.out w5 _ HX5.out)
  obtain⟨v7,w7,hr7,HA7⟩:=app_st HO5.out A.toList (by rw [Array.length_toList];exact HSZ.out) (fun u hu=>Array.all_eq_true_iff_forall_mem.1 HON.out u (by simpa using hu)) (by omega) HF5.out.size 46
  rw [Array.toArray_toList] at hr7
  have HR7:=hD hr7
  have HB7:Hid (Below w.heap.size w w7):=hD (HF5.out.trans (HA7.out.below HO5.out HF5.out.size))
  have HO7:Hid (w7.ownsRow w.heap.size 58 21 v7 (k+1) ((P.take (k+1)).flatMap stC)):=hD (by rw [HT.out];exact HA7.out.own)
  clear hr7
  go_wp2_with (refine zu3 rfl (.tmp 16) rfl g5 0 rfl A HRA.out HSZ.out ?_;refine zo4 (HBS.out w5) rfl _ rfl (by kernel_rfl) ?_;refine zv HR7.out rfl (.tmp 15) (.tmp 18) rfl (by kernel_rfl) (by kernel_rfl) ?_)
  go_roundw
  case rel=>exact⟨k+1,_,by omega,by go_num,rfl,HO7,HB7⟩
  case measure=>simp [intOf];omega
 case neg=>
 obtain rfl:k=P.length:=by omega
 have HOE:Hid (wr.ownsRow w.heap.size 58 21 vs P.length (P.flatMap stC)):=hD (by have h:=HO.out;rw [List.take_length] at h;exact h)
 go_wp2
 go_ret
 exact⟨_,rfl,HOE.out,HF.out⟩
end Go.Proofs.YtlmbiafloiompaaGreatDoor

namespace Go.Proofs.YtlmbiafloiompaaGreatDoor
open Go
def ndSelf (o:Ob) (i:Ins):VNd:=
 if i.1=4 ∨ i.1=13 then⟨1+arityF o i.2.1,0,0⟩
 else if i.1=5 ∨ i.1=14 then⟨2,0,0⟩
 else if i.1=10 then⟨1,0,0⟩
 else if i.1=15 then⟨0,3+i.2.1,0⟩
 else if i.1=20 then⟨0,0,1⟩
 else ndZero
def ndAnd (a b:VNd):VNd:=⟨a.cells+b.cells,a.words+b.words,a.choices+b.choices⟩
def followV (n:Nat) (i:Ins):List Int:=if i.1=26 then labsV i else if i.1=17 ∨ onV i.1=false then [] else [(n:Int)+1]
def mostV (at_:Int→VNd) (l:List Int):VNd:=l.foldl (fun b t=>ndMax b (at_ t)) ndZero
def ndOk (b:VNd):Prop:=0≤b.cells∧0≤b.words∧0≤b.choices
theorem zn6:ndOk ndZero:=⟨Int.le_refl _,Int.le_refl _,Int.le_refl _⟩
theorem ndMax_ok {a b:VNd} (ha:ndOk a):ndOk (ndMax a b):=by
 unfold ndOk ndMax
 obtain⟨h1,h2,h3⟩:=ha
 simp only
 omega
theorem zu11 {b:VNd} (hb:ndOk b):ndMax ndZero b=b:=by
 obtain⟨c,w,k⟩:=b
 obtain⟨h1,h2,h3⟩:=hb
 simp only at h1 h2 h3
 unfold ndMax ndZero
 simp only [VNd.mk.injEq]
 omega
theorem zm18 (at_:Int→VNd):∀ (l:List Int) (b:VNd),ndOk b→ndOk (l.foldl (fun b t=>ndMax b (at_ t)) b)
 | [],b,h=>h
 | t :: l,b,h=>zm18 at_ l _ (ndMax_ok h)
theorem zw18 (o:Ob) (i:Ins) (b:VNd):ndAnd (ndSelf o i) b=ndOwn o i b:=by
 obtain⟨c,w,k⟩:=b
 unfold ndAnd ndSelf ndOwn ndZero
 split
 ·simp only [VNd.mk.injEq];omega
 ·split
  ·simp only [VNd.mk.injEq];omega
  ·split
   ·simp only [VNd.mk.injEq];omega
   ·split
    ·simp only [VNd.mk.injEq];omega
    ·split
     ·simp only [VNd.mk.injEq];omega
     ·simp only [VNd.mk.injEq];omega
theorem own_ok {o:Ob} {i:Ins} {b:VNd} (hf:∀ f ∈ o.funs,0≤f.2) (hi:i.1=15→0≤i.2.1) (hb:ndOk b):ndOk (ndOwn o i b):=by
 have ha:∀ k,0≤arityF o k:=by
  intro k
  unfold arityF
  rw [List.getD_eq_getElem?_getD]
  cases h:o.funs[k.toNat]? with
  | none=>simp
  | some f=>exact hf f (List.mem_of_getElem? h)
 obtain⟨h1,h2,h3⟩:=hb
 have h4:=ha i.2.1
 unfold ndOwn ndOk
 split
 ·simp only;omega
 ·split
  ·simp only;omega
  ·split
   ·simp only;omega
   ·split
    ·rename_i h15
     have:=hi h15
     simp only;omega
    ·split
     ·simp only;omega
     ·exact⟨h1,h2,h3⟩
def needAt (o:Ob) (l:List VNd) (t:Int):VNd:=l.getD (t.toNat - (o.code.length - l.length)) ndZero
theorem zp2 (o:Ob):∀ k,(needsV o k).length=k
 | 0=>rfl
 | k+1=>by simp only [needsV,List.length_cons];rw [zp2 o k]
theorem zp18 {o:Ob} (hf:∀ f ∈ o.funs,0≤f.2) (hi:∀ i ∈ o.code,i.1=15→0≤i.2.1):∀ k,k≤o.code.length→∀ b ∈ needsV o k,ndOk b
 | 0,_,b,hb=>by cases hb
 | k+1,hk,b,hb=>by
  have ih:=zp18 hf hi k (by omega)
  rw [needsV] at hb
  rcases List.mem_cons.1 hb with rfl | hb
  ·have hlt:o.code.length - (k+1)<o.code.length:=by omega
   have him:o.code.getD (o.code.length - (k+1)) (0,0,0,0,0) ∈ o.code:=by
    rw [List.getD_eq_getElem?_getD,List.getElem?_eq_getElem hlt]
    exact List.getElem_mem hlt
   refine own_ok hf (hi _ him) ?_
   split
   ·exact zm18 _ _ _ zn6
   ·split
    ·rw [List.getD_eq_getElem?_getD]
     cases h:(needsV o k)[0]? with
     | none=>exact zn6
     | some b=>exact ih b (List.mem_of_getElem? h)
    ·exact zn6
  ·exact ih b hb
theorem zh20 {o:Ob} (hf:∀ f ∈ o.funs,0≤f.2) (hi:∀ i ∈ o.code,i.1=15→0≤i.2.1) (k:Nat) (hk:k+1≤o.code.length) :
  needsV o (k+1)=ndAnd (ndSelf o (o.code.getD (o.code.length - (k+1)) (0,0,0,0,0))) (mostV (needAt o (needsV o k)) (followV (o.code.length - (k+1)) (o.code.getD (o.code.length - (k+1)) (0,0,0,0,0)))) :: needsV o k:=by
 rw [needsV]
 congr 1
 rw [zw18]
 congr 1
 generalize o.code.getD (o.code.length - (k+1)) (0,0,0,0,0)=i
 have hkl:o.code.length - (needsV o k).length=o.code.length - (k+1)+1:=by rw [zp2];omega
 unfold followV
 by_cases h26:i.1=26
 ·rw [if_pos h26,if_pos h26]
  unfold mostV needAt
  rw [hkl]
 ·rw [if_neg h26,if_neg h26]
  by_cases h17:i.1=17 ∨ onV i.1=false
  ·rw [if_pos h17,if_neg (by rintro⟨h1,h2⟩;rcases h17 with h | h;exact h2 h;rw [h1] at h;cases h)]
   rfl
  ·rw [if_neg h17,if_pos ⟨by cases ho:onV i.1 with | true=>rfl | false=>exact absurd (.inr ho) h17,fun h=>h17 (.inl h)⟩]
   unfold mostV needAt
   rw [hkl]
   simp only [List.foldl_cons,List.foldl_nil]
   have h0:(((o.code.length - (k+1):Nat):Int)+1).toNat - (o.code.length - (k+1)+1)=0:=by omega
   rw [h0,zu11]
   rw [List.getD_eq_getElem?_getD]
   cases h:(needsV o k)[0]? with
   | none=>exact zn6
   | some b=>exact zp18 hf hi k (by omega) b (List.mem_of_getElem? h)
end Go.Proofs.YtlmbiafloiompaaGreatDoor

namespace Go.Proofs.YtlmbiafloiompaaGreatDoor
open Go Go.RowKit
set_option maxRecDepth 100000
def ndA (b:VNd):Array Value:=#[.int .i64 b.cells,.int .i64 b.words,.int .i64 b.choices]
def ndC (b:VNd):List Value:=[.int .i64 b.cells,.int .i64 b.words,.int .i64 b.choices]
theorem zc13:(Tryz.prog.info? 105).map (·.size)=some 3:=by kernel_rfl
theorem nd_row:(Tryz.prog.underlying 105).map TypeDesc.isRow=some true:=by kernel_rfl
theorem nd_und:∃ d,Tryz.prog.underlying 105=some d∧d.isRow=true:=by
 have hr:=nd_row
 cases hu:Tryz.prog.underlying 105 with
 | none=>rw [hu] at hr;exact absurd hr (by decide)
 | some d=>
  rw [hu] at hr
  exact⟨d,rfl,Option.some.inj hr⟩
theorem zq1 {fn:Func} {p:Tmp} (h:fn.results=#[.cell p 105]) (tmps:Array Value) (w:World) (g:Nat) (A:Array Value)
  (hp:tmps.getD p undef=.pointer (some ⟨g,0,none⟩)) (hb:Box w g 105 A) (hs:A.size=3):(results fn tmps).run Tryz.prog w=.ok (.agg A) w:=by
 obtain⟨d,hd,hd'⟩:=nd_und
 exact results_cell_row h tmps w g 105 A (0,0) d hp hb hd (by cases d <;> first | rfl | exact absurd hd' Bool.false_ne_true) (by rw [hs];exact zc13)
theorem zb1 {ops:Array Oper} {rest:List Oper} {o:Oper} {a:Act} {w:World} {Q:Exit→Act→World→Prop} (hgd:o.guard=none) (x y:Operand) (ho:o.op=.store 105 x y)
  (g:Nat) (A B:Array Value) (hx:a.eval x=.pointer (some ⟨g,0,none⟩)) (hy:a.eval y=.agg A) (hb:Box w g 105 B) (h1:A.size=3) (h2:B.size=3) (hone:A.all (·.oneCell')=true)
  (h:wpList Tryz.prog ops Q rest (a.put o.dst undef) (w.setRow g A)):wpList Tryz.prog ops Q (o :: rest) a w:=
 wpList_store_row hgd 105 x y ho g A hx hy 105 B hb (by rw [h1];exact zc13) (by rw [h1,h2]) hone h
theorem zq8 {ops:Array Oper} {rest:List Oper} {op:Oper} {a:Act} {w:World} {Q:Exit→Act→World→Prop} (hgd:op.guard=none) (x:Operand) (ho:op.op=.load 105 x)
  (g:Nat) (hx:a.eval x=.pointer (some ⟨g,0,none⟩)) (A:Array Value) (hb:Box w g 105 A) (hs:A.size=3)
  (h:wpList Tryz.prog ops Q rest (a.put op.dst (.agg A)) w):wpList Tryz.prog ops Q (op :: rest) a w:=by
 obtain⟨d,hd,hd'⟩:=nd_und
 refine wpList_load_mid hgd 105 x ho g 0 hx A.toList d (zc2 hb) hd hd' (by rw [Array.length_toList,hs];exact zc13) ?_
 rwa [Array.toArray_toList]
theorem ze1 (b:VNd):(ndA b).all (·.oneCell')=true:=Array.all_eq_true_iff_forall_mem.2 fun v hv=>by
 simp only [ndA,List.mem_toArray,List.mem_cons,List.not_mem_nil,or_false] at hv
 rcases hv with rfl | rfl | rfl <;> rfl
/-! Both. -/
set_option maxHeartbeats 4000000 in
theorem and_any (b c:VNd) (hb:0≤b.cells∧b.cells≤100000∧0≤b.words∧b.words≤100000∧0≤b.choices∧b.choices≤100000) (hc:0≤c.cells∧c.cells≤100000∧0≤c.words∧c.words≤100000∧0≤c.choices∧c.choices≤100000) (w:World) :
  Calls Tryz.prog 57 #[.agg (ndA b),.agg (ndA c)] w fun e w'=>e=.returned (.agg (ndA (ndAnd b c)))∧Below w.heap.size w w':=by
 obtain⟨b1,b2,b3⟩:=b
 obtain⟨c1,c2,c3⟩:=c
 simp only at hb hc
 obtain⟨X1,X2,X3,hbb⟩:=zw10 w #[.int .i64 b1,.int .i64 b2,.int .i64 b3] #[.int .i64 c1,.int .i64 c2,.int .i64 c3] #[.int .i64 0,.int .i64 0,.int .i64 0] 105
 have HX:=hD X1
 have HY:=hD X2
 have HZ:=hD X3
 have HB:=hD hbb
 clear X1 X2 X3 hbb
 have e1:IntKind.i64.wrap (b1+c1)=b1+c1:=IntWalk.i64_in _ (by omega)
 have e2:IntKind.i64.wrap (b2+c2)=b2+c2:=IntWalk.i64_in _ (by omega)
 have e3:IntKind.i64.wrap (b3+c3)=b3+c3:=IntWalk.i64_in _ (by omega)
 obtain⟨g,hg⟩:∃ g,w.heap.size=g:=⟨_,rfl⟩
 show Calls Tryz.prog 57 #[.agg #[.int .i64 b1,.int .i64 b2,.int .i64 b3],.agg #[.int .i64 c1,.int .i64 c2,.int .i64 c3]] w _
 go_enter Tryz.func57,Tryz.ntmps57
 go_upto_region 1 with(fail)
 obtain⟨w1,hw1⟩:∃ w1,((w.alloc (.cells #[.int .i64 b1,.int .i64 b2,.int .i64 b3] 105)).alloc (.cells #[.int .i64 c1,.int .i64 c2,.int .i64 c3] 105)).alloc (.cells #[.int .i64 0,.int .i64 0,.int .i64 0] 105)=w1:=⟨_,rfl⟩
 rw [hw1] at HX HY HZ HB ⊢
 rw [hg] at HX HY HZ HB
 clear hw1
 have x0:=HX.out.cell 0
 have x1:=HX.out.cell 1
 have x2:=HX.out.cell 2
 have y0:=HY.out.cell 0
 have y1:=HY.out.cell 1
 have y2:=HY.out.cell 2
 go_wp2_with (refine zb1 rfl (.tmp 4) (.tmp 20) rfl (g+2) (ndA (ndAnd ⟨b1,b2,b3⟩ ⟨c1,c2,c3⟩)) _ rfl rfl HZ.out rfl rfl (ze1 _) ?_)
 exact bodyPost_ret (zq1 rfl _ _ (g+2) (ndA (ndAnd ⟨b1,b2,b3⟩ ⟨c1,c2,c3⟩)) rfl (HZ.out.row _) rfl) rfl ⟨rfl,by first | exact zx HB.out (by omega) _ | (rw [hg];exact zx HB.out (by omega) _)⟩
/-! An instruction itself. -/
theorem nS_1 {o:Ob} {op a b c d:Int} (h:op=4 ∨ op=13):ndSelf o (op,a,b,c,d)=⟨1+arityF o a,0,0⟩:=if_pos h
theorem nS_2 {o:Ob} {op a b c d:Int} (h1:¬ (op=4 ∨ op=13)) (h:op=5 ∨ op=14):ndSelf o (op,a,b,c,d)=⟨2,0,0⟩:=by unfold ndSelf;rw [if_neg h1,if_pos h]
theorem nS_3 {o:Ob} {op a b c d:Int} (h:op=10):ndSelf o (op,a,b,c,d)=⟨1,0,0⟩:=by unfold ndSelf;rw [if_neg (by show ¬ (op=4 ∨ op=13);omega),if_neg (by show ¬ (op=5 ∨ op=14);omega),if_pos h]
theorem nS_4 {o:Ob} {op a b c d:Int} (h:op=15):ndSelf o (op,a,b,c,d)=⟨0,3+a,0⟩:=by unfold ndSelf;rw [if_neg (by show ¬ (op=4 ∨ op=13);omega),if_neg (by show ¬ (op=5 ∨ op=14);omega),if_neg (by show ¬ op=10;omega),if_pos h]
theorem nS_5 {o:Ob} {op a b c d:Int} (h:op=20):ndSelf o (op,a,b,c,d)=⟨0,0,1⟩:=by unfold ndSelf;rw [if_neg (by show ¬ (op=4 ∨ op=13);omega),if_neg (by show ¬ (op=5 ∨ op=14);omega),if_neg (by show ¬ op=10;omega),if_neg (by show ¬ op=15;omega),if_pos h]
theorem nS_6 {o:Ob} {op a b c d:Int} (h:¬ (op=4 ∨ op=13 ∨ op=5 ∨ op=14 ∨ op=10 ∨ op=15 ∨ op=20)):ndSelf o (op,a,b,c,d)=⟨0,0,0⟩:=by unfold ndSelf;rw [if_neg (by show ¬ (op=4 ∨ op=13);omega),if_neg (by show ¬ (op=5 ∨ op=14);omega),if_neg (by show ¬ op=10;omega),if_neg (by show ¬ op=15;omega),if_neg (by show ¬ op=20;omega)];rfl
set_option maxHeartbeats 8000000 in
theorem own_any {o:Ob} (ho:ObK o) {op a b c d:Int} (hi:InsK o (op,a,b,c,d)) {va vf vp vc:Value} (w:World) (hv:ObAt w va vf vp vc o) :
  Calls Tryz.prog 56 #[.agg #[va,vf,vp,vc],.agg #[.int .i64 op,.int .i64 a,.int .i64 b,.int .i64 c,.int .i64 d]] w fun e w'=>e=.returned (.agg (ndA (ndSelf o (op,a,b,c,d))))∧Below w.heap.size w w':=by
 obtain⟨A1,c1,rfl⟩:=CellsAt.form hv.atoms
 obtain⟨A2,cf,rfl⟩:=CellsAt.form hv.funs
 obtain⟨A3,cp,rfl⟩:=CellsAt.form hv.preds
 obtain⟨A4,cc,rfl⟩:=CellsAt.form hv.code
 have HV:=hD hv
 have hop:=hi.op
 simp only at hop
 have hb1:=za w (.cells #[.slice A1 o.atoms.length c1,.slice A2 o.funs.length cf,.slice A3 o.preds.length cp,.slice A4 o.code.length cc] 35)
 have hob:=Box.new w 35 #[.slice A1 o.atoms.length c1,.slice A2 o.funs.length cf,.slice A3 o.preds.length cp,.slice A4 o.code.length cc]
 obtain⟨hx1,hx2,hb2⟩:=zn1 (w.alloc (.cells #[.slice A1 o.atoms.length c1,.slice A2 o.funs.length cf,.slice A3 o.preds.length cp,.slice A4 o.code.length cc] 35)) #[.int .i64 op,.int .i64 a,.int .i64 b,.int .i64 c,.int .i64 d] #[.int .i64 0,.int .i64 0,.int .i64 0] 65 105
 rw [World.size_alloc] at hx1 hx2 hb2
 have HO:=hD ((hob.alloc (.cells #[.int .i64 op,.int .i64 a,.int .i64 b,.int .i64 c,.int .i64 d] 65)).alloc (.cells #[.int .i64 0,.int .i64 0,.int .i64 0] 105))
 have HI:=hD hx1
 have HZ:=hD hx2
 have HB:=hD (hb1.trans (hb2.mono (by omega)))
 clear hb1 hb2 hx1 hx2 hob hv
 obtain⟨g,hg⟩:∃ g,w.heap.size=g:=⟨_,rfl⟩
 go_enter Tryz.func56,Tryz.ntmps56
 go_upto_region 1 with(fail)
 obtain⟨w1,hw1⟩:∃ w1,((w.alloc (.cells #[.slice A1 o.atoms.length c1,.slice A2 o.funs.length cf,.slice A3 o.preds.length cp,.slice A4 o.code.length cc] 35)).alloc (.cells #[.int .i64 op,.int .i64 a,.int .i64 b,.int .i64 c,.int .i64 d] 65)).alloc (.cells #[.int .i64 0,.int .i64 0,.int .i64 0] 105)=w1:=⟨_,rfl⟩
 rw [hw1] at HO HI HZ HB ⊢
 have HBW:Hid (Below w.heap.size w w1):=hD HB.out
 rw [hg] at HO HI HZ HB
 clear hw1
 have i0:=HI.out.cell 0
 have i1:=HI.out.cell 1
 by_cases h1:op=4 ∨ op=13
 ·obtain⟨hf0,hf1⟩:=hi.fa (by simp only;omega)
  simp only at hf0 hf1
  obtain⟨ak,rfl⟩:∃ ak:Nat,a=(ak:Int):=⟨a.toNat,by omega⟩
  have hak:ak<o.funs.length:=by omega
  obtain⟨bp,of,rfl,hbp,_,hc5⟩:=zy1 HV.out.funs ak hak
  have har2:arityF o (ak:Int)=o.funs[ak].2:=by
   unfold arityF
   rw [Int.toNat_natCast,List.getD_eq_getElem?_getD,List.getElem?_eq_getElem hak]
   rfl
  have hsm:=zz2 ho (ak:Int)
  have HR:=hD (nS_1 (o:=o) (a:=(ak:Int)) (b:=b) (c:=c) (d:=d) h1)
  rw [har2] at HR hsm
  have q1:=HO.out.cell 1
  have c5:=(HBW.out.cell (p:=⟨bp,of+ak * 2+1,none⟩) hbp).trans hc5
  have i2:(ak:Int)<(o.funs.length:Int):=by omega
  have i3:(0:Int)≤(ak:Int):=by omega
  clear hc5 har2
  generalize o.funs[ak].2=ap at c5 hsm HR
  have hwr:IntKind.i64.wrap (1+ap)=1+ap:=IntWalk.i64_in _ (by omega)
  rcases h1 with rfl | rfl
  all_goals
   go_wp2_with (refine zb1 rfl (.tmp 4) (.tmp 20) rfl (g+1+1) (ndA ⟨1+ap,0,0⟩) _ rfl rfl HZ.out rfl rfl (ze1 _) ?_)
   exact bodyPost_ret (zq1 rfl _ _ (g+1+1) (ndA ⟨1+ap,0,0⟩) rfl (HZ.out.row _) rfl) rfl ⟨by rw [HR.out],by first | exact zx HB.out (by omega) _ | (rw [hg];exact zx HB.out (by omega) _)⟩
 by_cases h2:op=5 ∨ op=14
 ·have HR:=hD (nS_2 (o:=o) (a:=a) (b:=b) (c:=c) (d:=d) h1 h2)
  rcases h2 with rfl | rfl
  all_goals
   go_wp2_with (refine zb1 rfl (.tmp 4) (.tmp 24) rfl (g+1+1) (ndA ⟨2,0,0⟩) _ rfl rfl HZ.out rfl rfl (ze1 _) ?_)
   exact bodyPost_ret (zq1 rfl _ _ (g+1+1) (ndA ⟨2,0,0⟩) rfl (HZ.out.row _) rfl) rfl ⟨by rw [HR.out],by first | exact zx HB.out (by omega) _ | (rw [hg];exact zx HB.out (by omega) _)⟩
 by_cases h3:op=10
 ·have HR:=hD (nS_3 (o:=o) (a:=a) (b:=b) (c:=c) (d:=d) h3)
  subst h3
  go_wp2_with (refine zb1 rfl (.tmp 4) (.tmp 27) rfl (g+1+1) (ndA ⟨1,0,0⟩) _ rfl rfl HZ.out rfl rfl (ze1 _) ?_)
  exact bodyPost_ret (zq1 rfl _ _ (g+1+1) (ndA ⟨1,0,0⟩) rfl (HZ.out.row _) rfl) rfl ⟨by rw [HR.out],by first | exact zx HB.out (by omega) _ | (rw [hg];exact zx HB.out (by omega) _)⟩
 by_cases h4:op=15
 ·have HR:=hD (nS_4 (o:=o) (a:=a) (b:=b) (c:=c) (d:=d) h4)
  have hea:=hi.ea (by simp only;omega)
  simp only at hea
  have hwr:IntKind.i64.wrap (3+a)=3+a:=IntWalk.i64_in _ (by omega)
  subst h4
  go_wp2_with (refine zb1 rfl (.tmp 4) (.tmp 34) rfl (g+1+1) (ndA ⟨0,3+a,0⟩) _ rfl rfl HZ.out rfl rfl (ze1 _) ?_)
  exact bodyPost_ret (zq1 rfl _ _ (g+1+1) (ndA ⟨0,3+a,0⟩) rfl (HZ.out.row _) rfl) rfl ⟨by rw [HR.out],by first | exact zx HB.out (by omega) _ | (rw [hg];exact zx HB.out (by omega) _)⟩
 by_cases h5:op=20
 ·have HR:=hD (nS_5 (o:=o) (a:=a) (b:=b) (c:=c) (d:=d) h5)
  subst h5
  go_wp2_with (refine zb1 rfl (.tmp 4) (.tmp 37) rfl (g+1+1) (ndA ⟨0,0,1⟩) _ rfl rfl HZ.out rfl rfl (ze1 _) ?_)
  exact bodyPost_ret (zq1 rfl _ _ (g+1+1) (ndA ⟨0,0,1⟩) rfl (HZ.out.row _) rfl) rfl ⟨by rw [HR.out],by first | exact zx HB.out (by omega) _ | (rw [hg];exact zx HB.out (by omega) _)⟩
 have HR:=hD (nS_6 (o:=o) (a:=a) (b:=b) (c:=c) (d:=d) (op:=op) (by omega))
 have e4:(op == 4)=false:=beq_eq_false_iff_ne.2 (by omega)
 have e13:(op == 13)=false:=beq_eq_false_iff_ne.2 (by omega)
 have e5:(op == 5)=false:=beq_eq_false_iff_ne.2 (by omega)
 have e14:(op == 14)=false:=beq_eq_false_iff_ne.2 (by omega)
 have e10:(op == 10)=false:=beq_eq_false_iff_ne.2 (by omega)
 have e15:(op == 15)=false:=beq_eq_false_iff_ne.2 (by omega)
 have e20:(op == 20)=false:=beq_eq_false_iff_ne.2 (by omega)
 go_wp2_with (refine zb1 rfl (.tmp 4) (.tmp 38) rfl (g+1+1) (ndA ⟨0,0,0⟩) _ rfl rfl HZ.out rfl rfl (ze1 _) ?_)
 exact bodyPost_ret (zq1 rfl _ _ (g+1+1) (ndA ⟨0,0,0⟩) rfl (HZ.out.row _) rfl) rfl ⟨by rw [HR.out],by first | exact zx HB.out (by omega) _ | (rw [hg];exact zx HB.out (by omega) _)⟩
/-! Where it goes on. -/
set_option maxHeartbeats 8000000 in
theorem zu19 (n:Nat) (hn:n≤1024) (op a b c d:Int) (w:World) :
  Calls Tryz.prog 59 #[.int .i64 n,.agg #[.int .i64 op,.int .i64 a,.int .i64 b,.int .i64 c,.int .i64 d]] w fun e w'=>∃ v,e=.returned v∧IntsV w' v (followV n (op,a,b,c,d))∧Below w.heap.size w w':=by
 have HB:=hD (za w (.cells #[.int .i64 op,.int .i64 a,.int .i64 b,.int .i64 c,.int .i64 d] 65))
 have HX:=hD (Box.new w 65 #[.int .i64 op,.int .i64 a,.int .i64 b,.int .i64 c,.int .i64 d])
 have HLB:=hD (fun w=>zm7 op a b c d w)
 have HON:Hid (∀ w,Calls Tryz.prog 99 #[.int .i64 op] w fun e w'=>e=.returned (.bool (onV op))∧w=w'):=hD (fun w=>zk7 op w)
 have HF26:Hid (op=26→followV n (op,a,b,c,d)=labsV (op,a,b,c,d)):=hD (fun h=>if_pos h)
 have HF17:Hid (op≠26→(op=17 ∨ onV op=false)→followV n (op,a,b,c,d)=[]):=hD (fun h h2=>by unfold followV;rw [if_neg h,if_pos h2])
 have HFON:Hid (op≠26→op≠17→onV op=true→followV n (op,a,b,c,d)=[(n:Int)+1]):=hD (fun h h2 h3=>by unfold followV;rw [if_neg h,if_neg (by show ¬ (op=17 ∨ onV op=false);rw [h3];rintro(h | h);exact h2 h;cases h)])
 generalize followV n (op,a,b,c,d)=F at HF26 HF17 HFON ⊢
 have hwr:IntKind.i64.wrap ((n:Int)+1)=(n:Int)+1:=IntWalk.i64_in _ (by omega)
 obtain⟨g,hg⟩:∃ g,w.heap.size=g:=⟨_,rfl⟩
 go_enter Tryz.func59,Tryz.ntmps59
 go_upto_region 1 with(fail)
 obtain⟨w1,hw1⟩:∃ w1,w.alloc (.cells #[.int .i64 op,.int .i64 a,.int .i64 b,.int .i64 c,.int .i64 d] 65)=w1:=⟨_,rfl⟩
 rw [hw1] at HX HB ⊢
 rw [hg] at HX HB
 have HG:=hD HB.out.size
 rw [hg] at HG
 clear hw1
 have y0:=HX.out.cell 0
 have y1:=HX.out.cell 1
 have y2:=HX.out.cell 2
 have y3:=HX.out.cell 3
 have y4:=HX.out.cell 4
 by_cases h26:op=26
 ·have HR:=hD (HF26.out h26)
  have e26:(op == 26)=true:=by rw [beq_iff_eq];exact h26
  clear HF26 HF17 HFON h26
  go_wp2_with (go_at_call 100;refine(HLB.out _).mono ?_;rintro e1 w2 ⟨v2,rfl,ho2,hb2⟩;have HO2:=hD ho2;have HB2:=hD (HB.out.trans (hb2.mono HG.out));clear ho2 hb2)
  go_ret
  exact⟨_,rfl,by rw [HR.out];exact CellsAt.of_own HO2.out (by decide),by first | exact HB2.out | (rw [hg];exact HB2.out)⟩
 have e26:(op == 26)=false:=beq_eq_false_iff_ne.2 h26
 by_cases h17:op=17
 ·have HR:=hD (HF17.out h26 (.inl h17))
  have e17:(op == 17)=true:=by rw [beq_iff_eq];exact h17
  clear HF26 HF17 HFON h26 h17
  go_wp2
  go_ret
  exact⟨_,rfl,by rw [HR.out];exact .inl ⟨rfl,rfl,_,_,rfl⟩,by first | exact HB.out | (rw [hg];exact HB.out)⟩
 have e17:(op == 17)=false:=beq_eq_false_iff_ne.2 h17
 obtain⟨on,hon⟩:∃ on,onV op=on:=⟨_,rfl⟩
 rw [hon] at HON HF17 HFON
 clear hon
 cases on with
 | false=>
  have HR:=hD (HF17.out h26 (.inr rfl))
  clear HF26 HF17 HFON h26 h17
  go_wp2_with (go_at_call 99;refine(HON.out _).mono ?_;rintro e1 w5 ⟨rfl,rfl⟩)
  go_ret
  exact⟨_,rfl,by rw [HR.out];exact .inl ⟨rfl,rfl,_,_,rfl⟩,by first | exact HB.out | (rw [hg];exact HB.out)⟩
 | true=>
  have HR:=hD (HFON.out h26 h17 rfl)
  clear HF26 HF17 HFON h26 h17
  have HBN:=hD (HB.out.alloc HG.out (.cells #[.int .i64 ((n:Int)+1)] 3))
  have HXN:=hD (Box.new w1 3 #[.int .i64 ((n:Int)+1)])
  go_wp2_with (go_at_call 99;refine(HON.out _).mono ?_;rintro e1 w5 ⟨rfl,rfl⟩)
  go_ret
  refine⟨_,rfl,?_,by first | exact HBN.out | (rw [hg];exact HBN.out)⟩
  rw [HR.out]
  exact .inr ⟨_,0,1,rfl,HXN.out.lt,fun k u hk=>by rw [Nat.zero_add,HXN.out.cell k];simpa using hk⟩
theorem ndC_at (R:List VNd) (t:Nat) (h:t<R.length) (j:Nat) (hj:j<3):(R.flatMap ndC).toArray[t * 3+j]?=(ndC R[t])[j]?:=by
 rw [List.getElem?_toArray]
 exact zb3 ndC 3 (fun _=>rfl) R t R[t] (List.getElem?_eq_getElem h) j hj
set_option maxHeartbeats 8000000 in
theorem zl14 (R:List VNd) (hR:R.length≤1024) (L:List Int) (hL:∀ t ∈ L,0≤t∧t<(R.length:Int)) (hll:L.length≤1000) (gl:Nat) (vL:Value) (w:World) (hb:Box w gl 105 (R.flatMap ndC).toArray) (hv:IntsV w vL L) :
  Calls Tryz.prog 58 #[.slice (some ⟨gl,0,none⟩) R.length R.length,vL] w fun e w'=>e=.returned (.agg (ndA (mostV (fun t=>R.getD t.toNat ndZero) L)))∧Below w.heap.size w w':=by
 obtain⟨A,c,rfl⟩:=CellsAt.form hv
 have HV:=hD hv
 have HR:=hD hb
 have HLL:=hD hL
 obtain⟨mk,hmk⟩:∃ mk:Nat→VNd,∀ k,mk k=(L.take k).foldl (fun b t=>ndMax b (R.getD t.toNat ndZero)) ndZero:=⟨fun _=>_,fun _=>rfl⟩
 have HM0:Hid (mk 0=ndZero):=hD (by rw [hmk];rfl)
 have HMS:Hid (∀ k (hk:k<L.length),mk (k+1)=ndMax (mk k) (R.getD (L[k]).toNat ndZero)):=hD (fun k hk=>by
  rw [hmk,hmk,List.take_succ_eq_append_getElem hk,List.foldl_append]
  rfl)
 have HMA:Hid (mostV (fun t=>R.getD t.toNat ndZero) L=mk L.length):=hD (by rw [hmk,List.take_length];rfl)
 generalize mostV (fun t=>R.getD t.toNat ndZero) L=res at HMA ⊢
 clear hv hb hL hmk
 obtain⟨X1,X2,hbb⟩:=zb7 w #[.int .i64 0,.int .i64 0,.int .i64 0] #[.int .i64 0,.int .i64 0,.int .i64 0] 105
 have HZ:=hD X1
 have HM:=hD X2
 have HB:=hD hbb
 clear X1 X2 hbb
 obtain⟨g,hg⟩:∃ g,w.heap.size=g:=⟨_,rfl⟩
 have hgl:gl<g:=by rw [← hg];exact HR.out.lt
 go_enter Tryz.func58,Tryz.ntmps58
 go_upto_region 2 with(fail)
 obtain⟨w1,hw1⟩:∃ w1,(w.alloc (.cells #[.int .i64 0,.int .i64 0,.int .i64 0] 105)).alloc (.cells #[.int .i64 0,.int .i64 0,.int .i64 0] 105)=w1:=⟨_,rfl⟩
 rw [hw1] at HZ HM HB ⊢
 rw [hg] at HZ HM
 clear hw1
 go_wp2
 have M0:Hid (Box w1 (g+1) 105 (ndA (mk 0))):=hD (by rw [HM0.out];exact HM.out)
 clear HM
 go_loopw [7,10] (fun _ i wr=>∃ k:Nat,k≤L.length∧i=.int .i64 k∧Hid (Box wr g 105 #[.int .i64 0,.int .i64 0,.int .i64 0])∧Hid (Box wr (g+1) 105 (ndA (mk k)))∧Hid (Below w.heap.size w wr)) (fun _ i _=>L.length - (intOf i).toNat)
 case atStart=>exact⟨0,by omega,rfl,HZ,M0,HB⟩
 obtain⟨k,hk,rfl,HZr,HMr,HBr⟩:=hrel
 clear M0 HZ HB
 by_cases hlt:k<L.length
 case pos=>
  obtain⟨_,bo,off,hA,hlo,hc⟩:=CellsAt.at_ HV.out (by omega)
  subst hA
  have d0:=(HBr.out.cell (p:=⟨bo,off+k,none⟩) hlo).trans (hc k (.int .i64 L[k]) (by simp [hlt]))
  have hlk:=HLL.out L[k] (List.getElem_mem hlt)
  have HST:=hD (HMS.out k hlt)
  clear hc
  generalize L[k]=t at d0 hlk HST
  obtain⟨tk,rfl⟩:∃ tk:Nat,t=(tk:Int):=⟨t.toNat,by omega⟩
  have htk:tk<R.length:=by omega
  have HST2:Hid (mk (k+1)=ndMax (mk k) R[tk]):=hD (by
   rw [HST.out,Int.toNat_natCast,List.getD_eq_getElem?_getD,List.getElem?_eq_getElem htk]
   rfl)
  have hrw:=HR.out.below HBr.out HR.out.lt
  have r0:=hrw.cell (tk * 3+0)
  have r1:=hrw.cell (tk * 3+1)
  have r2:=hrw.cell (tk * 3+2)
  rw [ndC_at R tk htk 0 (by decide)] at r0
  rw [ndC_at R tk htk 1 (by decide)] at r1
  rw [ndC_at R tk htk 2 (by decide)] at r2
  simp only [ndC,List.getElem?_cons_succ,List.getElem?_cons_zero,Nat.add_zero] at r0 r1 r2
  clear HST hrw
  generalize R[tk]=rb at r0 r1 r2 HST2
  obtain⟨q1,q2,q3⟩:=rb
  simp only at r0 r1 r2
  have m0:=HMr.out.cell 0
  have m1:=HMr.out.cell 1
  have m2:=HMr.out.cell 2
  have HMK:Hid (∀ b,mk k=b→ndA (mk k)=#[.int .i64 b.cells,.int .i64 b.words,.int .i64 b.choices]):=hD (fun b h=>by rw [h];rfl)
  obtain⟨⟨p1,p2,p3⟩,hp⟩:∃ b,mk k=b:=⟨_,rfl⟩
  rw [HMK.out _ hp] at m0 m1 m2
  rw [hp] at HST2 HMr
  simp only at m0 m1 m2
  have i0:(0:Int)≤(tk:Int):=by omega
  have i1:(tk:Int)<(R.length:Int):=by omega
  have i2:(k:Int)<(L.length:Int):=by omega
  have i3:(0:Int)≤(k:Int):=by omega
  clear HMK hp
  go_upto_region 5 with(fail)
  go_still_tail 25,(by kernel_rfl)
  change wpList _ _ _ _ _ wr.drew
  have HZd:=hD HZr.out.drew
  have HMd:=hD HMr.out.drew
  have HBd:=hD (bel_dn HBr.out 1)
  change Hid (Below w.heap.size w wr.drew) at HBd
  generalize wr.drew=w5 at HZd HMd HBd ⊢
  have HMn:=hD (HMd.out.row (ndA (mk (k+1))))
  have HZn:=hD (HZd.out.row_far (k:=g+1) (by omega) (ndA (mk (k+1))))
  have HBn:=hD (zx HBd.out (g:=g+1) (by omega) (ndA (mk (k+1))))
  have HEV:Hid (ndA (mk (k+1))=#[.int .i64 (max p1 q1),.int .i64 (max p2 q2),.int .i64 (max p3 q3)]):=hD (by rw [HST2.out];rfl)
  go_wp2_with (refine zb1 rfl (.tmp 5) (.tmp 38) rfl (g+1) (ndA (mk (k+1))) _ rfl (by rw [HEV.out];first | rfl | kernel_rfl) HMd.out rfl rfl (ze1 _) ?_)
  go_roundw
  case rel=>exact⟨k+1,by omega,by go_num,HZn,HMn,HBn⟩
  case measure=>simp [intOf];omega
 case neg=>
 obtain rfl:k=L.length:=by omega
 go_wp2_with (refine zq8 rfl (.tmp 5) rfl (g+1) rfl (ndA (mk L.length)) HMr.out rfl ?_;refine zb1 rfl (.tmp 4) (.tmp 40) rfl g (ndA (mk L.length)) _ rfl rfl HZr.out rfl rfl (ze1 _) ?_)
 exact bodyPost_ret (zq1 rfl _ _ g (ndA (mk L.length)) rfl (HZr.out.row _) rfl) rfl ⟨by rw [HMA.out],zx HBr.out (by omega) _⟩
theorem zm6 {α:Type} (f:α→List Value) (a:α) (m:Nat) (hm:0<m) (hf:(f a).length=m) (n:Nat):madeCells (f a).toArray (n * m)=((List.replicate n a).flatMap f).toArray:=by
 have hl:((List.replicate n a).flatMap f).length=n * m:=by
  rw [zd2 f m _ (fun b hb=>by rw [List.eq_of_mem_replicate hb];exact hf),List.length_replicate]
 apply Array.ext
 ·rw [size_madeCells,List.size_toArray,hl]
 ·intro j h1 h2
  rw [size_madeCells] at h1
  have hk:j / m<n:=Nat.div_lt_of_lt_mul (by rw [Nat.mul_comm];exact h1)
  have hr:j % m<m:=Nat.mod_lt _ hm
  have e:=zi2 f m (List.replicate n a) (fun b hb=>by rw [List.eq_of_mem_replicate hb];exact hf) (j / m) a (by rw [List.getElem?_replicate,if_pos hk]) (j % m) hr
  have hj:j / m * m+j % m=j:=by rw [Nat.mul_comm];exact Nat.div_add_mod j m
  rw [hj] at e
  have h2':j<((List.replicate n a).flatMap f).length:=by rw [hl];exact h1
  rw [List.getElem?_eq_getElem h2',List.getElem?_eq_getElem (by rw [hf];exact hr)] at e
  have e2:=Option.some.inj e
  have e3:((List.replicate n a).flatMap f).toArray[j]'h2=((List.replicate n a).flatMap f)[j]'h2':=List.getElem_toArray _
  rw [e3,e2]
  have e4:(madeCells (f a).toArray (n * m))[j]=(f a).toArray[j % (f a).toArray.size]!:=by simp [madeCells]
  have e5:(f a).toArray.size=m:=by rw [List.size_toArray,hf]
  rw [e4,e5,getElem!_pos (f a).toArray (j % m) (by rw [e5];exact hr),List.getElem_toArray]
theorem infoNeed:(Tryz.prog.info? 105).map (fun i=>(i.zero,i.size,i.bytes))=some (some (.agg (ndA ndZero)),3,24):=by kernel_rfl
theorem zl13 (n:Nat) (hn:n≤1024) (w:World):(Instr.makeSlice 47 (.int .i64 (n:Int)) (.int .i64 (n:Int))).run Tryz.prog w=.ok (.slice (some ⟨w.heap.size,0,none⟩) n n) (w.alloc (.cells ((List.replicate n ndZero).flatMap ndC).toArray 105)):=by
 obtain⟨i,hi1,hz0,hz1,hz2⟩:=info_parts infoNeed
 have h:=run_makeSlice (P:=Tryz.prog) w 47 105 i (.agg (ndA ndZero)) Tryz.underlying47 hi1 hz0 .i64 .i64 (n:Int) (n:Int) (by omega) (Int.le_refl _) (by rw [hz1];simp;omega) (by rw [hz2];omega) (by omega)
 rw [hz1] at h
 simp only [Int.toNat_natCast] at h
 rw [← zm6 ndC ndZero 3 (by decide) rfl n]
 exact h
theorem nd_put (R:List VNd) (m:Nat) (hm:m<R.length) (b:VNd):putL (R.flatMap ndC).toArray (m * 3) (ndA b).toList=((R.set m b).flatMap ndC).toArray:=by
 have hl:(R.flatMap ndC).length=R.length * 3:=zd2 ndC 3 R (fun _ _=>rfl)
 have hl2:((R.set m b).flatMap ndC).length=R.length * 3:=by rw [zd2 ndC 3 _ (fun _ _=>rfl),List.length_set]
 apply Array.ext_getElem?
 intro j
 rw [zt7 _ _ _ _ (by rw [List.size_toArray,hl];show m * 3+3≤_;omega)]
 by_cases hj:j<R.length * 3
 ·have hk:j / 3<R.length:=by omega
  have e:j=j / 3 * 3+j % 3:=by omega
  have hr:j % 3<3:=Nat.mod_lt _ (by decide)
  have e1:=zi2 ndC 3 (R.set m b) (fun _ _=>rfl) (j / 3) (if m=j / 3 then b else R[j / 3]) (by
   rw [List.getElem?_set]
   by_cases x:m=j / 3
   ·rw [if_pos x,if_pos hm,if_pos x]
   ·rw [if_neg x,if_neg x,List.getElem?_eq_getElem hk]) (j % 3) hr
  rw [← e] at e1
  rw [List.getElem?_toArray,List.getElem?_toArray,e1]
  by_cases hkm:m=j / 3
  ·have h1:m * 3≤j∧j<m * 3+(ndA b).toList.length:=by show _∧j<m * 3+3;omega
   have h2:j - m * 3=j % 3:=by omega
   rw [if_pos h1,h2,if_pos hkm]
   rfl
  ·have h1:¬ (m * 3≤j∧j<m * 3+(ndA b).toList.length):=by show ¬ (_∧j<m * 3+3);omega
   rw [if_neg h1,if_neg hkm]
   have e2:=zi2 ndC 3 R (fun _ _=>rfl) (j / 3) R[j / 3] (List.getElem?_eq_getElem hk) (j % 3) hr
   rw [← e] at e2
   exact e2
 ·have h1:¬ (m * 3≤j∧j<m * 3+(ndA b).toList.length):=by show ¬ (_∧j<m * 3+3);omega
  rw [if_neg h1,Array.getElem?_eq_none (by rw [List.size_toArray,hl];omega),Array.getElem?_eq_none (by rw [List.size_toArray,hl2];omega)]
theorem zf2 {w:World} {g:Nat} {t:TypeId} {R:List VNd} {m:Nat} {b:VNd} (h:Box w g t (R.flatMap ndC).toArray) (hm:m<R.length):w.there g (m * 3) (ndA b).size:=fun j hj=>by
 have hl:(R.flatMap ndC).length=R.length * 3:=zd2 ndC 3 R (fun _ _=>rfl)
 have hj2:j<3:=hj
 refine⟨?_,h.frozen _⟩
 rw [h.cell,Array.getElem?_eq_getElem (by rw [List.size_toArray,hl];omega)]
 rfl
/-! The row,place by place from its end. -/
def rowN (o:Ob) (k:Nat):List VNd:=List.replicate (o.code.length - k) ndZero ++ needsV o k
theorem zv18 (o:Ob) (k:Nat) (h:k≤o.code.length):(rowN o k).length=o.code.length:=by
 unfold rowN
 rw [List.length_append,List.length_replicate,zp2]
 omega
theorem rowN_get (o:Ob) (k:Nat) (t:Int) (h0:((o.code.length - k:Nat):Int)≤t):(rowN o k).getD t.toNat ndZero=needAt o (needsV o k) t:=by
 unfold rowN needAt
 rw [zp2,List.getD_eq_getElem?_getD,List.getD_eq_getElem?_getD,List.getElem?_append_right (by rw [List.length_replicate];omega),List.length_replicate]
theorem zv14 {f g:Int→VNd}:∀ (L:List Int) (b:VNd),(∀ t ∈ L,f t=g t)→L.foldl (fun b t=>ndMax b (f t)) b=L.foldl (fun b t=>ndMax b (g t)) b
 | [],_,_=>rfl
 | t :: L,b,h=>by
  rw [List.foldl_cons,List.foldl_cons,h t List.mem_cons_self]
  exact zv14 L _ (fun u hu=>h u (List.mem_cons_of_mem _ hu))
def headN (o:Ob) (k:Nat):VNd:=ndAnd (ndSelf o (o.code.getD (o.code.length - (k+1)) (0,0,0,0,0))) (mostV (fun t=>(rowN o k).getD t.toNat ndZero) (followV (o.code.length - (k+1)) (o.code.getD (o.code.length - (k+1)) (0,0,0,0,0))))
theorem zj15 {o:Ob} (ho:ObK o) (k:Nat) (hk:k+1≤o.code.length) (hgo:∀ t ∈ followV (o.code.length - (k+1)) (o.code.getD (o.code.length - (k+1)) (0,0,0,0,0)),((o.code.length - (k+1):Nat):Int)<t) :
  rowN o (k+1)=(rowN o k).set (o.code.length - (k+1)) (headN o k):=by
 have hs:=zh20 (o:=o) (fun f hf=>by have:=ho.fun_ f hf;omega) (fun i hi h=>((ho.ins i hi).ea h).1) k hk
 have hm:mostV (needAt o (needsV o k)) (followV (o.code.length - (k+1)) (o.code.getD (o.code.length - (k+1)) (0,0,0,0,0)))=mostV (fun t=>(rowN o k).getD t.toNat ndZero) (followV (o.code.length - (k+1)) (o.code.getD (o.code.length - (k+1)) (0,0,0,0,0))):=
  zv14 _ _ (fun t ht=>(rowN_get o k t (by have:=hgo t ht;omega)).symm)
 rw [hm] at hs
 have hh:headN o k=ndAnd (ndSelf o (o.code.getD (o.code.length - (k+1)) (0,0,0,0,0))) (mostV (fun t=>(rowN o k).getD t.toNat ndZero) (followV (o.code.length - (k+1)) (o.code.getD (o.code.length - (k+1)) (0,0,0,0,0)))):=rfl
 rw [← hh] at hs
 have e:o.code.length - k=(o.code.length - (k+1))+1:=by omega
 have r1:rowN o (k+1)=List.replicate (o.code.length - (k+1)) ndZero ++ needsV o (k+1):=rfl
 have r2:rowN o k=List.replicate (o.code.length - (k+1)) ndZero ++ (ndZero :: needsV o k):=by
  show List.replicate (o.code.length - k) ndZero ++ needsV o k=_
  rw [e,List.replicate_succ',List.append_assoc]
  rfl
 rw [r1,hs,r2]
 generalize headN o k=H
 rw [List.set_append_right _ _ (by rw [List.length_replicate];exact Nat.le_refl _),List.length_replicate,Nat.sub_self]
 rfl
def NdB (m:Int) (b:VNd):Prop:=0≤b.cells∧b.cells≤9 * m∧0≤b.words∧b.words≤19 * m∧0≤b.choices∧b.choices≤m
theorem NdB.zero {m:Int} (h:0≤m):NdB m ndZero:=by unfold NdB ndZero;simp only;omega
theorem NdB.max {m:Int} {a b:VNd} (ha:NdB m a) (hb:NdB m b):NdB m (ndMax a b):=by unfold NdB ndMax at *;simp only;omega
theorem NdB.most {m:Int} (f:Int→VNd):∀ (L:List Int) (b:VNd),NdB m b→(∀ t ∈ L,NdB m (f t))→NdB m (L.foldl (fun b t=>ndMax b (f t)) b)
 | [],_,h,_=>h
 | t :: L,b,h,hf=>NdB.most f L _ (h.max (hf t List.mem_cons_self)) (fun u hu=>hf u (List.mem_cons_of_mem _ hu))
theorem NdB.mono {m k:Int} {b:VNd} (h:NdB m b) (hk:m≤k):NdB k b:=by unfold NdB at *;omega
theorem self_b {o:Ob} (ho:ObK o) {i:Ins} (hi:InsK o i):NdB 1 (ndSelf o i):=by
 have ha:=zz2 ho i.2.1
 unfold ndSelf
 split
 ·unfold NdB;simp only;omega
 ·split
  ·unfold NdB;simp only;omega
  ·split
   ·unfold NdB;simp only;omega
   ·split
    ·rename_i h
     have:=hi.ea h
     unfold NdB;simp only;omega
    ·split
     ·unfold NdB;simp only;omega
     ·exact NdB.zero (by decide)
theorem and_b {m:Int} {a b:VNd} (ha:NdB 1 a) (hb:NdB m b):NdB (m+1) (ndAnd a b):=by unfold NdB ndAnd at *;simp only;omega
theorem head_b {o:Ob} (ho:ObK o) (k:Nat) (hk:k<o.code.length) (h:∀ b ∈ rowN o k,NdB k b):NdB k (mostV (fun t=>(rowN o k).getD t.toNat ndZero) (followV (o.code.length - (k+1)) (o.code.getD (o.code.length - (k+1)) (0,0,0,0,0))))∧NdB ((k:Int)+1) (headN o k):=by
 have hm:NdB k (mostV (fun t=>(rowN o k).getD t.toNat ndZero) (followV (o.code.length - (k+1)) (o.code.getD (o.code.length - (k+1)) (0,0,0,0,0)))):=NdB.most _ _ _ (NdB.zero (by omega)) (fun t _=>by
  rw [List.getD_eq_getElem?_getD]
  cases hx:(rowN o k)[t.toNat]? with
  | none=>exact NdB.zero (by omega)
  | some b=>exact h b (List.mem_of_getElem? hx))
 refine⟨hm,and_b (self_b ho (ho.ins _ ?_)) hm⟩
 rw [List.getD_eq_getElem?_getD,List.getElem?_eq_getElem (by omega)]
 exact List.getElem_mem _
theorem zq:(Tryz.prog.info? 106).map (·.size)=some 3:=by kernel_rfl
theorem zc3:(Tryz.prog.underlying 106).map TypeDesc.isRow=some true:=by kernel_rfl
set_option maxHeartbeats 4000000 in
theorem rmost_any (b c:VNd) (w:World) :
  Calls Tryz.prog 72 #[.agg (ndA b),.agg (ndA c)] w fun e w'=>e=.returned (.agg (ndA (ndMax b c)))∧Below w.heap.size w w':=by
 obtain⟨b1,b2,b3⟩:=b
 obtain⟨c1,c2,c3⟩:=c
 obtain⟨X1,X2,X3,hbb⟩:=zw4 w #[.int .i64 b1,.int .i64 b2,.int .i64 b3] #[.int .i64 c1,.int .i64 c2,.int .i64 c3] #[.int .i64 0,.int .i64 0,.int .i64 0] 106 106 106
 have HX:=hD X1
 have HY:=hD X2
 have HZ:=hD X3
 have HB:=hD hbb
 clear X1 X2 X3 hbb
 obtain⟨g,hg⟩:∃ g,w.heap.size=g:=⟨_,rfl⟩
 show Calls Tryz.prog 72 #[.agg #[.int .i64 b1,.int .i64 b2,.int .i64 b3],.agg #[.int .i64 c1,.int .i64 c2,.int .i64 c3]] w _
 go_enter Tryz.func72,Tryz.ntmps72
 go_upto_region 1 with(fail)
 obtain⟨w1,hw1⟩:∃ w1,((w.alloc (.cells #[.int .i64 b1,.int .i64 b2,.int .i64 b3] 106)).alloc (.cells #[.int .i64 c1,.int .i64 c2,.int .i64 c3] 106)).alloc (.cells #[.int .i64 0,.int .i64 0,.int .i64 0] 106)=w1:=⟨_,rfl⟩
 rw [hw1] at HX HY HZ HB ⊢
 rw [hg] at HX HY HZ HB
 try rw [hg]
 clear hw1
 have x0:=HX.out.cell 0
 have x1:=HX.out.cell 1
 have x2:=HX.out.cell 2
 have y0:=HY.out.cell 0
 have y1:=HY.out.cell 1
 have y2:=HY.out.cell 2
 go_wp2_with (refine ze zq rfl (.tmp 4) (.tmp 20) rfl (g+2) 0 (ndA (ndMax ⟨b1,b2,b3⟩ ⟨c1,c2,c3⟩)) rfl (by first | rfl | kernel_rfl) (zr HZ.out (by decide)) rfl (ze1 _) ?_)
 exact bodyPost_ret (zr1 zc3 zq rfl _ _ (g+2) (ndA (ndMax ⟨b1,b2,b3⟩ ⟨c1,c2,c3⟩)) rfl (zw HZ.out rfl) rfl) rfl ⟨rfl,by first | exact zg _ _ _ 0 HB.out (by omega) | (rw [hg];exact zg _ _ _ 0 HB.out (by omega))⟩
theorem infoNeedD:(Tryz.prog.info? 106).map (fun i=>(i.zero,i.size,i.bytes))=some (some (.agg (ndA ndZero)),3,24):=by kernel_rfl
theorem zd11 (n:Nat) (hn:n≤1024) (w:World):(Instr.makeSlice 68 (.int .i64 (n:Int)) (.int .i64 (n:Int))).run Tryz.prog w=.ok (.slice (some ⟨w.heap.size,0,none⟩) n n) (w.alloc (.cells ((List.replicate n ndZero).flatMap ndC).toArray 106)):=by
 obtain⟨i,hi1,hz0,hz1,hz2⟩:=info_parts infoNeedD
 have h:=run_makeSlice (P:=Tryz.prog) w 68 106 i (.agg (ndA ndZero)) Tryz.underlying68 hi1 hz0 .i64 .i64 (n:Int) (n:Int) (by omega) (Int.le_refl _) (by rw [hz1];simp;omega) (by rw [hz2];omega) (by omega)
 rw [hz1] at h
 simp only [Int.toNat_natCast] at h
 rw [← zm6 ndC ndZero 3 (by decide) rfl n]
 exact h
/-! One round's memory: the row,the object,the instruction,what comes behind it. -/
structure NdR (w:World) (g gl gi gb:Nat) (B I:Array Value) (R:List VNd) (b:VNd) (W:World):Prop where
 row:Box W gl 106 (R.flatMap ndC).toArray
 ob:Box W g 27 B
 ins:Box W gi 54 I
 bh:Box W gb 106 (ndA b)
 below:Below w.heap.size w W
 l0:w.heap.size≤gl
 l1:gl<gb
 l2:w.heap.size≤gb
section
variable {w:World} {g gl gi gb:Nat} {B I:Array Value} {R:List VNd} {b:VNd} {W:World}
theorem NdR.up {W':World} (h:NdR w g gl gi gb B I R b W) (hb:Below W.heap.size W W'):NdR w g gl gi gb B I R b W':=
 ⟨h.row.below hb h.row.lt,h.ob.below hb h.ob.lt,h.ins.below hb h.ins.lt,h.bh.below hb h.bh.lt,h.below.trans (hb.mono h.below.size),h.l0,h.l1,h.l2⟩
theorem NdR.rl (h:NdR w g gl gi gb B I R b W):W.cell? ⟨gb,0,none⟩=(ndA b)[0]?∧W.cell? ⟨gb,1,none⟩=(ndA b)[1]?∧W.cell? ⟨gb,2,none⟩=(ndA b)[2]?∧W.cell? ⟨gi,0,none⟩=I[0]?∧W.cell? ⟨gi,1,none⟩=I[1]?∧W.cell? ⟨gi,2,none⟩=I[2]?∧W.cell? ⟨gi,3,none⟩=I[3]?∧W.cell? ⟨gi,4,none⟩=I[4]?∧W.cell? ⟨g,1,none⟩=B[1]?:=
 ⟨h.bh.cell 0,h.bh.cell 1,h.bh.cell 2,h.ins.cell 0,h.ins.cell 1,h.ins.cell 2,h.ins.cell 3,h.ins.cell 4,h.ob.cell 1⟩
theorem NdR.drewN (h:NdR w g gl gi gb B I R b W) (n:Nat):NdR w g gl gi gb B I R b (W.drewN n):=h.up (bel_dn (Below.refl _ _) n)
theorem NdR.setb (h:NdR w g gl gi gb B I R b W) (b':VNd):NdR w g gl gi gb B I R b' (W.setCells gb 0 (ndA b').toList):=
 ⟨Box.setCells_far (Nat.ne_of_lt h.l1) _ _ _ _ h.row,Box.setCells_far (Box.ne_ h.ob h.bh (by decide)) _ _ _ _ h.ob,Box.setCells_far (Box.ne_ h.ins h.bh (by decide)) _ _ _ _ h.ins,zw h.bh rfl,zg _ _ _ _ h.below h.l2,h.l0,h.l1,h.l2⟩
theorem NdR.set (h:NdR w g gl gi gb B I R b W) {b':VNd} (j:Nat) (v:Value) (e:(ndA b).setIfInBounds j v=ndA b'):NdR w g gl gi gb B I R b' (W.setCell ⟨gb,j,none⟩ v):=
 ⟨h.row.far (p:=⟨gb,j,none⟩) (Nat.ne_of_lt h.l1) v,h.ob.far (p:=⟨gb,j,none⟩) (Box.ne_ h.ob h.bh (by decide)) v,h.ins.far (p:=⟨gb,j,none⟩) (Box.ne_ h.ins h.bh (by decide)) v,by rw [← e];exact h.bh.set_ j v,h.below.setCell (p:=⟨gb,j,none⟩) h.l2 v,h.l0,h.l1,h.l2⟩
theorem NdR.fin (h:NdR w g gl gi gb B I R b W) {m:Nat} (hm:m<R.length):Box (W.setCells gl (m * 3) (ndA b).toList) gl 106 (putL (R.flatMap ndC).toArray (m * 3) (ndA b).toList)∧Box (W.setCells gl (m * 3) (ndA b).toList) g 27 B∧Below w.heap.size w (W.setCells gl (m * 3) (ndA b).toList):=
 ⟨Box.setCells _ _ _ _ h.row,Box.setCells_far (Box.ne_ h.ob h.row (by decide)) _ _ _ _ h.ob,zg _ _ _ _ h.below h.l0⟩
theorem NdR.start {wr:World} (hrow:Box wr gl 106 (R.flatMap ndC).toArray) (hob:Box wr g 27 B) (hb:Below w.heap.size w wr) (l0:w.heap.size≤gl) (I:Array Value) :
  NdR w g gl wr.heap.size (wr.heap.size+1) B I R ndZero ((wr.alloc (.cells I 54)).alloc (.cells #[.int .i64 0,.int .i64 0,.int .i64 0] 106)):=by
 have h1:=za wr (.cells I 54)
 have h2:=za (wr.alloc (.cells I 54)) (.cells #[.int .i64 0,.int .i64 0,.int .i64 0] 106)
 have hb2:=Box.new (wr.alloc (.cells I 54)) 106 #[.int .i64 0,.int .i64 0,.int .i64 0]
 rw [World.size_alloc] at hb2
 have hs:=hb.size
 exact⟨(hrow.alloc _).alloc _,(hob.alloc _).alloc _,(Box.new wr _ _).alloc _,hb2,hb.trans ((h1.trans (h2.mono h1.size)).mono hs),l0,Nat.lt_succ_of_lt hrow.lt,by omega⟩
end
theorem NdB.ok {m:Int} {b:VNd} (h:NdB m b):ndOk b:=⟨h.1,h.2.2.1,h.2.2.2.2.1⟩
end Go.Proofs.YtlmbiafloiompaaGreatDoor
