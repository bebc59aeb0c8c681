/-
 The document's Check (layer 11): its memory and what its operations make;what it answers. No condition beyond those named.
-/
import Derived.Test.YtlmbiafloiompaaGreatDoorJO19
import Derived.Test.YtlmbiafloiompaaGreatDoorJO26
import Derived.Test.YtlmbiafloiompaaGreatDoorJO12
import Derived.Test.YtlmbiafloiompaaGreatDoorJO29
import Derived.Test.YtlmbiafloiompaaGreatDoorJO04
import Derived.Test.YtlmbiafloiompaaGreatDoorJO32
set_option linter.unusedVariables false
set_option linter.unusedSimpArgs false
namespace Go.Proofs.YtlmbiafloiompaaGreatDoor
open Go Go.RowKit
set_option maxRecDepth 100000
theorem zz19:(Tryz.prog.info? 97).map (fun i=>(i.zero,i.size,i.bytes))=some (some (.agg (pdC plZero).toArray),23,168):=by kernel_rfl
theorem zm10 (n:Nat) (hn:n≤1024) (w:World):(Instr.makeSlice 93 (.int .i64 (n:Int)) (.int .i64 (n:Int))).run Tryz.prog w=.ok (.slice (some ⟨w.heap.size,0,none⟩) n n) (w.alloc (.cells (pdA (List.replicate n plZero)) 97)):=by
 obtain⟨i,hi1,hz0,hz1,hz2⟩:=info_parts zz19
 have h:=run_makeSlice (P:=Tryz.prog) w 93 97 i (.agg (pdC plZero).toArray) Tryz.underlying93 hi1 hz0 .i64 .i64 (n:Int) (n:Int) (by omega) (Int.le_refl _) (by rw [hz1];simp;omega) (by rw [hz2];omega) (by omega)
 rw [hz1] at h
 simp only [Int.toNat_natCast] at h
 have e:=zm6 pdC plZero 23 (by decide) rfl n
 have e2:(Value.agg (pdC plZero).toArray).cells=(pdC plZero).toArray:=rfl
 rw [e2,e] at h
 exact h
theorem zn13 {s:VSt} (h:StOk s) (w:World):(Instr.buildSlice 67 1 #[(0,.agg (stA s))]).run Tryz.prog w=.ok (.slice (some ⟨w.heap.size,0,none⟩) 1 1) (w.alloc (.cells (stA s) 95)):=by
 obtain⟨x,env,y,left,alt,neck⟩:=s
 obtain⟨y0,y1,y2,y3,y4,y5,y6,y7,y8,y9,y10,y11,y12,y13,y14,y15,rfl⟩:=zm1 y h.y
 kernel_rfl
theorem app_stD {wr:World} {base n:Nat} {v:Value} {xs:List Value} (hown:wr.ownsRow base 95 21 v n xs) (news:List Value) (hl:news.length=21)
  (h1:∀ u ∈ news,u.oneCell'=true) (hn:n≤1000000) (hbase:base≤wr.heap.size) (ty:TypeId) :
  ∃ v' w',(Builtin.append_ #[67,67] ty #[v,.slice (some ⟨wr.heap.size,0,none⟩) 1 1]).run Tryz.prog (wr.alloc (.cells news.toArray 95))=.ok v' w'∧Hid (App wr w' base 95 21 v v' (n+1) (xs ++ news)):=by
 have hi:∃ z,(Tryz.prog.info? 95).map (fun i=>(i.zero,i.size,i.bytes))=some (some z,21,160)∧z.cells.size=21:=⟨.agg zeroA,by kernel_rfl,rfl⟩
 obtain⟨z,hi,hzs⟩:=hi
 obtain⟨i,hi1,hz0,hz1,hz2⟩:=info_parts hi
 have hb:(n+1) * 160≤140737488355328:=Nat.le_trans (Nat.mul_le_mul (show n+1≤1000001 by omega) (Nat.le_refl 160)) (by decide)
 obtain⟨v',w',hr,h2,h3,_,h5⟩:=run_append_own_at (P:=Tryz.prog) (wr.alloc (.cells news.toArray 95)) base 67 ty 95 i z 21 160 Tryz.underlying67 hi1 hz0 hz1 hz2 hzs (by decide) v n xs
  (own_fr (S:=fun _=>False) hown ((Fr.refl _ wr).alloc _) (fun _ _ x=>x)) ⟨wr.heap.size,0,none⟩ 1 1 news (by omega) (fun j u hu=>by
   rw [Addr.add_mid,Nat.zero_add,(Box.new wr 95 news.toArray).cell j]
   simpa using hu) h1 (by unfold maxLen;omega) hb (by simp;omega)
 refine⟨v',w',hr,hD ⟨h2,?_,?_,zl h2 |>.imp fun _ ⟨c,h,_⟩=>⟨c,h⟩⟩⟩
 ·exact((Fr.refl (fun b=>v.ownBlock=some b) wr).alloc _).trans (Fr.of_grown h3 fun _ _ e=>e)
 ·rcases h5 with h5 | h5
  ·exact .inl h5
  ·exact .inr ⟨_,h5,by simp⟩
theorem zo1 {fn:Func} {t u v x:Tmp} (h:fn.results=#[.tmp t,.tmp u,.tmp v,.tmp x]) (tmps:Array Value) (P:Program) (w:World) :
  (results fn tmps).run P w=.ok (.tuple #[tmps.getD t undef,tmps.getD u undef,tmps.getD v undef,tmps.getD x undef]) w:=by
 simp [results,h]
def CheckD (w:World) (o:Ob) (e:Ending) (w':World):Prop:=
 ∃ vs vn,e=.returned (.tuple #[vs,vn,.int .i64 (verifyOf o).2.2.1,.int .i64 (verifyOf o).2.2.2])∧CellsAt w' vs (verifyOf o).1.length ((verifyOf o).1.flatMap stSs)∧CellsAt w' vn (verifyOf o).2.1.length ((verifyOf o).2.1.flatMap ndC)∧Below w.heap.size w w'
theorem zo2 {w w':World} {o:Ob} {c n:Int} {e:Ending} (h:verifyOf o=([],[],c,n)) (he:e=.returned (.tuple #[.slice none 0 0,.slice none 0 0,.int .i64 c,.int .i64 n])) (hb:Below w.heap.size w w'):CheckD w o e w':=
 ⟨.slice none 0 0,.slice none 0 0,by rw [he,h],by rw [h];exact .inl ⟨rfl,rfl,_,_,rfl⟩,by rw [h];exact .inl ⟨rfl,rfl,_,_,rfl⟩,hb⟩
theorem checkD_ok {w w':World} {o:Ob} {l:List VSt} {N:List VNd} {e:Ending} {vs vn:Value} (h:verifyOf o=(l,N,0,-1)) (he:e=.returned (.tuple #[vs,vn,.int .i64 0,.int .i64 (-1)])) (h1:CellsAt w' vs l.length (l.flatMap stSs)) (h2:CellsAt w' vn N.length (N.flatMap ndC)) (hb:Below w.heap.size w w'):CheckD w o e w':=
 ⟨vs,vn,by rw [he,h],by rw [h];exact h1,by rw [h];exact h2,hb⟩
/-! Its memory: the object,the places. -/
structure CkD (w:World) (g gp:Nat) (B:Array Value) (P:List VPl) (W:World):Prop where
 ob:Box W g 27 B
 pl:Box W gp 97 (pdA P)
 below:Below w.heap.size w W
 l0:w.heap.size≤gp
section
variable {w:World} {g gp:Nat} {B:Array Value} {P:List VPl} {W:World}
theorem CkD.up {W':World} (h:CkD w g gp B P W) (hb:Below W.heap.size W W'):CkD w g gp B P W':=
 ⟨h.ob.below hb h.ob.lt,h.pl.below hb h.pl.lt,h.below.trans (hb.mono h.below.size),h.l0⟩
theorem CkD.drewN (h:CkD w g gp B P W) (n:Nat):CkD w g gp B P (W.drewN n):=h.up (bel_dn (Below.refl _ _) n)
theorem CkD.put (h:CkD w g gp B P W) (hP:PlOk P) {n:Nat} (hn:n<P.length) {q:VPl} (hq:StOk q.s):CkD w g gp B (P.set n q) (W.setCells gp (n * 23) (pdC q)):=
 ⟨Box.setCells_far (Box.ne_ h.ob h.pl (by decide)) _ _ _ _ h.ob,by rw [← pdA_put hP hn hq];exact Box.setCells _ _ _ _ h.pl,zg _ _ _ _ h.below h.l0,h.l0⟩
end
theorem zg17 (o:Ob) (k:Nat) (hk:k<o.preds.length):(o.preds.take (k+1)).foldl (fun P p=>P.set p.2.2.toNat ⟨true,false,stEntry p.2.1.toNat⟩) (List.replicate o.code.length plZero)=((o.preds.take k).foldl (fun P p=>P.set p.2.2.toNat ⟨true,false,stEntry p.2.1.toNat⟩) (List.replicate o.code.length plZero)).set o.preds[k].2.2.toNat ⟨true,false,stEntry o.preds[k].2.1.toNat⟩:=by
 rw [List.take_succ_eq_append_getElem hk,List.foldl_append]
 rfl
structure RnD (w:World) (g gp gx gs:Nat) (B:Array Value) (P:List VPl) (I:Array Value) (S:VSt) (vs:Value) (m:Nat) (xs:List Value) (W:World):Prop where
 ck:CkD w g gp B P W
 st:W.ownsRow w.heap.size 95 21 vs m xs
 xb:Box W gx 54 I
 sb:Box W gs 95 (stA S)
section
variable {w:World} {g gp gx gs m:Nat} {B I:Array Value} {P:List VPl} {S:VSt} {vs:Value} {xs:List Value} {W:World}
theorem RnD.up {W':World} (h:RnD w g gp gx gs B P I S vs m xs W) (hb:Below W.heap.size W W'):RnD w g gp gx gs B P I S vs m xs W':=
 ⟨h.ck.up hb,own_fr (S:=fun _=>False) h.st (Fr.of_below hb) (fun _ _ x=>x),h.xb.below hb h.xb.lt,h.sb.below hb h.sb.lt⟩
theorem RnD.drewN (h:RnD w g gp gx gs B P I S vs m xs W) (n:Nat):RnD w g gp gx gs B P I S vs m xs (W.drewN n):=h.up (bel_dn (Below.refl _ _) n)
theorem RnD.put (h:RnD w g gp gx gs B P I S vs m xs W) (hP:PlOk P) {n:Nat} (hn:n<P.length) {q:VPl} (hq:StOk q.s):RnD w g gp gx gs B (P.set n q) I S vs m xs (W.setCells gp (n * 23) (pdC q)):=
 ⟨h.ck.put hP hn hq,own_fr (S:=fun k=>k=gp) h.st (Fr.setCells (pdC q) W W (n * 23) (Fr.refl _ W) (.inl rfl)) (fun k hk hx=>zb h.st h.ck.pl (by decide) k hk hx),Box.setCells_far (Box.ne_ h.xb h.ck.pl (by decide)) _ _ _ _ h.xb,Box.setCells_far (Box.ne_ h.sb h.ck.pl (by decide)) _ _ _ _ h.sb⟩
end
theorem zl11 {o:Ob} {X:VSt} (hx:StW X):∀ (L:List Int) (P:List VPl),(∀ t ∈ L,0≤t∧0≤ownV o t)→(PlW P∧InCode o P∧P.length=o.code.length)→PlW (L.foldl (fun Q t=>bringV Q t X) P)∧InCode o (L.foldl (fun Q t=>bringV Q t X) P)∧(L.foldl (fun Q t=>bringV Q t X) P).length=o.code.length
 | [],_,_,h=>h
 | t :: L,P,ht,h=>by
  rw [List.foldl_cons]
  have h1:=ht t List.mem_cons_self
  exact zl11 hx L _ (fun u hu=>ht u (List.mem_cons_of_mem _ hu)) ⟨h.1.bring t hx,h.2.1.bring h1.1 h1.2 X,by rw [zw1];exact h.2.2⟩
end Go.Proofs.YtlmbiafloiompaaGreatDoor
