/-
 The document's Fix (with what it owns) of objects: what it makes may be. No condition.
-/
import Derived.Test.YtlmbiafloiompaaGreatDoorJO48
import Derived.Deep.DeepCutAuto
import Derived.Deep.CutBlock
import Derived.Outline
set_option linter.unusedVariables false
set_option linter.unusedSimpArgs false
namespace Go.Proofs.YtlmbiafloiompaaGreatDoor
open Go Go.RowKit Go.WideShapes Go.ChangeShapes
def FixMore (w w':World) (ua uf up uc:Value) (o':Ob):Prop:=w'.ownsRow w.heap.size 63 3 up o'.preds.length (o'.preds.flatMap predC)∧∀ W:World,Fr (fun k=>k<w.heap.size ∨ up.ownBlock=some k) w' W→AtomsAt W ua o'.atoms∧FunsAt W uf o'.funs∧CodeAt W uc o'.code
def FixPost (w:World) (e:Ending) (w':World):Prop:=∃ (o':Ob) (ua uf up uc:Value),e=.returned (.agg #[ua,uf,up,uc])∧(∀ W:World,Fr (fun k=>k<w.heap.size) w' W→ObAt W ua uf up uc o')∧checkOf o'=0∧(∀ k c,ua=.slice none k c→c=0)∧Below w.heap.size w w'∧FixMore w w' ua uf up uc o'
theorem zn12 (x:Int):0≤IntKind.u64.wrap x∧IntKind.u64.wrap x≤18446744073709551615:=by
 have:IntKind.u64.wrap x=x % 18446744073709551616:=rfl
 omega
def letter (k:Nat):ByteArray:=⟨#[UInt8.ofNat (97+k)]⟩
theorem letter_at (k:Nat) (h:k<4):letterCells[k]?=some (.string (letter k)):=by
 match k,h with
 | 0,_=>rfl
 | 1,_=>rfl
 | 2,_=>rfl
 | 3,_=>rfl
theorem zf20 (k:Nat):(⟨#[112]⟩:ByteArray) ++ letter k=pname k:=by
 apply ByteArray.ext
 rw [ByteArray.data_append]
 rfl
theorem zo16 (k:Nat):(letter k).size=1:=rfl
theorem zz8 {w:World} {base:Nat} {e:TypeId} {size n:Nat} {v:Value} {xs:List Value} (h:w.ownsRow base e size v n xs) (hn:0<n):∃ g c,v=.slice (some ⟨g,0,none⟩) n c:=by
 rcases h.2 with⟨_,h0⟩ | ⟨g,cap,cur,rfl,_⟩
 ·omega
 ·exact⟨g,cap,rfl⟩
theorem zg3 {w:World} {g8:Nat} {t:TypeId} {a b c:Value} (h:Box w g8 t #[a,b,c]) (n:Nat) {x:Value}:Box ((w.drewN n).setCell ⟨g8,2,none⟩ x) g8 t #[a,b,x]:=by
 have:=(h.drewN n).set_ 2 x
 simpa using this
theorem zq4 (w:World) (n:Nat):Below w.heap.size w (w.drewN n):=⟨rfl,rfl,rfl,Nat.le_refl _,fun _ _=>rfl⟩
theorem zk2 {w w':World} {g8:Nat} (h:Below w.heap.size w w') (hg:w.heap.size=g8) (n:Nat) {x:Value}:Below w.heap.size w ((w'.drewN n).setCell ⟨g8,2,none⟩ x):=
 (h.trans ((zq4 w' n).mono h.size)).setCell (p:=⟨g8,2,none⟩) (by rw [hg];exact Nat.le_refl _) _
theorem rng4 {r:Nat} (h:r<4):0≤(r:Int)∧(r:Int)≤3:=by omega
theorem tmod_nat {en:Int} {n:Nat} (h:0≤en) (hn:0<n) (h30:n≤30):∃ x:Nat,en.tmod (n:Int)=(x:Int)∧0≤(x:Int)∧(x:Int)<(n:Int)∧wrap64 (x:Int)=(x:Int)∧¬ (n:Int)=0∧((n:Int) == 0)=false:=by
 have h1:=Int.tmod_nonneg (n:Int) h
 have h2:=Int.tmod_lt_of_pos en (b:=(n:Int)) (by omega)
 refine⟨(en.tmod (n:Int)).toNat,by omega,by omega,by omega,by unfold wrap64;omega,by omega,by simp;omega⟩
theorem mod_nat (x:Int) (m:Nat) (h0:0<m) (h:m≤1000):∃ r u:Nat,IntKind.u64.wrap x=(u:Int)∧(u:Int).tmod (m:Int)=(r:Int)∧r<m∧IntKind.u64.wrap (r:Int)=(r:Int)∧IntKind.i64.wrap (r:Int)=(r:Int)∧wrap64 (r:Int)=(r:Int):=by
 have h1:=zn12 x
 have hr:=Nat.mod_lt (IntKind.u64.wrap x).toNat h0
 refine⟨(IntKind.u64.wrap x).toNat % m,(IntKind.u64.wrap x).toNat,by omega,?_,hr,?_,IntWalk.i64_in _ (by omega),by unfold wrap64;omega⟩
 ·rw [Int.tmod_eq_emod_of_nonneg (by omega)]
  exact(Int.natCast_emod _ _).symm
 ·generalize (IntKind.u64.wrap x).toNat % m=r at hr
  show(r:Int) % 18446744073709551616=_
  omega
def argCells (r:Nat) (l:List Int):Array Value:=#[.int .i64 (r:Int),.int .i64 (l.getD 0 0),.int .i64 (l.getD 1 0),.int .i64 (l.getD 2 0),.int .i64 (l.getD 3 0)]
theorem fx_later {w wr W:World} {g3 g4 ga gf:Nat} {us:Array Value} {vp vc:Value} {lp:List (ByteArray × Int × Int)} {lc:List Ins} (h:Fx w wr g3 g4 ga gf us vp vc lp lc) (hf:Fr (fun k=>k=w.heap.size+1) wr W) (W':World) (hf':Fr (fun k=>k<w.heap.size) W W') :
  ObAt W' (.slice (some ⟨ga,0,none⟩) 3 3) (.slice (some ⟨gf,0,none⟩) 2 2) vp vc (fixOb lp lc):=by
 have hlt:=h.lt
 have hba:=(h.ba.fr hf (h.ba.ne_ h.b2 (by decide))).fr hf' (by omega)
 have hbf:=(h.bf.fr hf (h.bf.ne_ h.b2 (by decide))).fr hf' (by omega)
 have hrp:=own_fr (own_fr h.rp hf (fun k hk e=>zb h.rp h.b2 (by decide) k hk e)) hf' (fun k hk e=>by have:=(own_ge h.rp hk).1;omega)
 have hrc:=own_fr (own_fr h.rc hf (fun k hk e=>zb h.rc h.b2 (by decide) k hk e)) hf' (fun k hk e=>by have:=(own_ge h.rc hk).1;omega)
 refine⟨.inr ⟨ga,0,3,rfl,hba.lt,fun k u hk=>?_⟩,.inr ⟨gf,0,2,rfl,hbf.lt,fun k u hk=>?_⟩,CellsAt.of_own hrp (by decide),CellsAt.of_own hrc (by decide)⟩
 ·rw [Nat.zero_add,hba.cell k]
  simpa [fixOb,atomCells] using hk
 ·rw [Nat.zero_add,hbf.cell k]
  simpa [fixOb,funCells,funC] using hk
theorem fx_more {w wr W:World} {g3 g4 ga gf:Nat} {us:Array Value} {vp vc:Value} {lp:List (ByteArray × Int × Int)} {lc:List Ins} (h:Fx w wr g3 g4 ga gf us vp vc lp lc) (hf:Fr (fun k=>k=w.heap.size+1) wr W):FixMore w W (.slice (some ⟨ga,0,none⟩) 3 3) (.slice (some ⟨gf,0,none⟩) 2 2) vp vc (fixOb lp lc):=by
 have hlt:=h.lt
 have hrp:=own_fr h.rp hf (fun k hk e=>zb h.rp h.b2 (by decide) k hk e)
 have hrc:=own_fr h.rc hf (fun k hk e=>zb h.rc h.b2 (by decide) k hk e)
 have hba:=h.ba.fr hf (h.ba.ne_ h.b2 (by decide))
 have hbf:=h.bf.fr hf (h.bf.ne_ h.b2 (by decide))
 refine⟨hrp,fun W' hf'=>?_⟩
 have ka:=hba.fr hf' (by
  rintro(e | e)
  ·omega
  ·exact zb hrp hba (by decide) _ e rfl)
 have kf:=hbf.fr hf' (by
  rintro(e | e)
  ·omega
  ·exact zb hrp hbf (by decide) _ e rfl)
 have kc:=own_fr hrc hf' (fun k hk e=>by
  rcases e with e | e
  ·have:=(own_ge h.rc hk).1;omega
  ·exact zc hrc hrp (by decide) k hk e)
 refine⟨.inr ⟨ga,0,3,rfl,ka.lt,fun k u hk=>?_⟩,.inr ⟨gf,0,2,rfl,kf.lt,fun k u hk=>?_⟩,CellsAt.of_own kc (by decide)⟩
 ·rw [Nat.zero_add,ka.cell k]
  simpa [fixOb,atomCells] using hk
 ·rw [Nat.zero_add,kf.cell k]
  simpa [fixOb,funCells,funC] using hk
theorem zt19 {w w9 w10 W:World} {ua uf up uc:Value} {o':Ob} (h:FixMore w9 w10 ua uf up uc o') (h1:w.heap.size+1<w9.heap.size) (hf:Fr (fun k=>k=w.heap.size+1) w10 W):FixMore w W ua uf up uc o':=by
 refine⟨own_fr (zh4 h.1 (fun k hk=>by have:=(own_ge h.1 hk).1;omega)) hf (fun k hk e=>by have:=(own_ge h.1 hk).1;omega),fun W' hf'=>h.2 W' ((hf.mono (fun k _ e=>.inl (by omega))).trans (hf'.mono (fun k _ e=>by
  rcases e with e | e
  ·exact .inl (by omega)
  ·exact .inr e)))⟩
theorem arg_set (r:Nat) (l:List Int) (m:Nat) (hm:m<4) (hl:l.length=4) (x:Int):(argCells r l).setIfInBounds (1+m) (.int .i64 x)=argCells r (l.set m x):=by
 match l,hl with
 | [a,b,c,d],_=>
  match m,hm with
  | 0,_=>rfl
  | 1,_=>rfl
  | 2,_=>rfl
  | 3,_=>rfl
theorem zb16 {W:World} {g:Nat} {t:TypeId} {r:Nat} {l:List Int} {m:Nat} (h:Box W g t (argCells r l)) (hm:m<4) (hl:l.length=4) (x:Int):Box (W.setCell ⟨g,1+m,none⟩ (.int .i64 x)) g t (argCells r (l.set m x)):=by
 have:=h.set_ (1+m) (.int .i64 x)
 rwa [arg_set r l m hm hl] at this
theorem zo15 (l:List Int) (m:Nat) (x y:Int):(l.set m x).set m y=l.set m y:=by simp
theorem arg_at {W:World} {g:Nat} {t:TypeId} {r:Nat} {l:List Int} {m:Nat} (h:Box W g t (argCells r l)) (hm:m<4):W.cell? ⟨g,1+m,none⟩=some (.int .i64 (l.getD m 0)):=by
 rw [h.cell (1+m)]
 match m,hm with
 | 0,_=>rfl
 | 1,_=>rfl
 | 2,_=>rfl
 | 3,_=>rfl
theorem zp15 {x:Nat} (h:x≤32):IntKind.u64.wrap (x:Int)=(x:Int)∧IntKind.i64.wrap (x:Int)=(x:Int)∧wrap64 (x:Int)=(x:Int)∧wrap64 ((x:Int)+1)=(x:Int)+1:=by
 refine⟨?_,IntWalk.i64_in _ (by omega),by unfold wrap64;omega,by unfold wrap64;omega⟩
 show(x:Int) % 18446744073709551616=_
 omega
theorem ne_zero8 {M:Nat} (h:¬ M=0):0<M∧¬ (M:Int)=0∧((M:Int) == 0)=false:=⟨by omega,by omega,by simp;omega⟩
theorem zk8 (W:World):(W.alloc (.cells #[.string ⟨#[]⟩,.int .i64 0,.int .i64 0] 63)).ownsRow W.heap.size 63 3 (.slice (some ⟨W.heap.size,0,none⟩) 1 1) 1 [.string ⟨#[]⟩,.int .i64 0,.int .i64 0]:=
 ⟨rfl,.inr ⟨W.heap.size,1,#[.string ⟨#[]⟩,.int .i64 0,.int .i64 0],rfl,Nat.le_refl _,heap_alloc_new W _,by omega,by unfold maxLen;omega,rfl,rfl⟩⟩
theorem rng27 {r:Nat} (h:r<27):0≤(r:Int)∧(r:Int)≤26:=by omega
theorem most_zero {k n q:Nat} (h1:1≤q) (h9:q≤9) (hn:0<n) (h:mostOf k n (q:Int)=0):k=0:=by
 match q,h1,h9 with
 | 1,_,_=>simp [mostOf] at h
 | 2,_,_=>simp [mostOf] at h
 | 3,_,_=>simp [mostOf] at h
 | 4,_,_=>simp [mostOf] at h
 | 5,_,_=>simp [mostOf] at h
 | 6,_,_=>simp [mostOf] at h
 | 7,_,_=>simpa [mostOf] using h
 | 8,_,_=>
  simp [mostOf] at h
  omega
 | 9,_,_=>simp [mostOf] at h
theorem most_le {k n:Nat} {q:Int} (hk:k≤4) (hn:n≤30):mostOf k n q≤32:=by
 unfold mostOf
 repeat' split
 all_goals omega
theorem ok_step {lc:List Ins} {j k n:Nat} {x:Ins} (hj:j<lc.length) (h:∀ x ∈ lc.take j,insErr 3 2 k n x=0) (hx:insErr 3 2 k n x=0):∀ y ∈ (lc.set j x).take (j+1),insErr 3 2 k n y=0:=by
 intro y hy
 rw [List.take_succ_eq_append_getElem (by rw [List.length_set];exact hj),List.take_set_of_le (Nat.le_refl _)] at hy
 rcases List.mem_append.1 hy with hy | hy
 ·exact h y hy
 ·simp at hy
  rw [hy]
  exact hx
theorem Fx.row {w wr:World} {g3 g4 ga gf gc cc:Nat} {us:Array Value} {vp:Value} {lp:List (ByteArray × Int × Int)} {lc:List Ins} (h:Fx w wr g3 g4 ga gf us vp (.slice (some ⟨gc,0,none⟩) lc.length cc) lp lc) (j:Nat) (hj:j<lc.length) :
  ∃ v0 v1 v2 v3 v4,wr.cell? ⟨gc,j * 5,none⟩=some v0∧wr.cell? ⟨gc,j * 5+1,none⟩=some v1∧wr.cell? ⟨gc,j * 5+2,none⟩=some v2∧wr.cell? ⟨gc,j * 5+3,none⟩=some v3∧wr.cell? ⟨gc,j * 5+4,none⟩=some v4 ∧
   wr.frozen? ⟨gc,j * 5,none⟩=false∧wr.frozen? ⟨gc,j * 5+1,none⟩=false∧wr.frozen? ⟨gc,j * 5+2,none⟩=false∧wr.frozen? ⟨gc,j * 5+3,none⟩=false∧wr.frozen? ⟨gc,j * 5+4,none⟩=false:=by
 have hc:=fun t (ht:t<5)=>(h.rc.cellAt (j * 5+t) (by omega)).trans (zb3 insC 5 (fun _=>rfl) lc j lc[j] (by simp [hj]) t ht)
 have h0:=hc 0 (by omega)
 rw [Nat.add_zero] at h0
 have f0:=h.rc.frozenAt (j * 5)
 exact⟨_,_,_,_,_,h0,hc 1 (by omega),hc 2 (by omega),hc 3 (by omega),hc 4 (by omega),f0,h.rc.frozenAt _,h.rc.frozenAt _,h.rc.frozenAt _,h.rc.frozenAt _⟩
theorem fr_two {w9 w10 W W':World} {B:Nat} (h1:B+1<w9.heap.size) (h2:B≤w9.heap.size) (hf:Fr (fun k=>k=B+1) w10 W) (hf':Fr (fun k=>k<B) W W'):Fr (fun k=>k<w9.heap.size) w10 W':=
 (hf.mono (fun k _ e=>by omega)).trans (hf'.mono (fun k _ e=>by omega))
theorem six_new (w:World) (us:Array Value):Fx w ((((((w.alloc (.cells us 27)).alloc (.cells #[.slice none 0 0,.slice none 0 0,.slice none 0 0,.slice none 0 0] 27)).alloc (.cells letterCells 9)).alloc (.cells atomCells 9)).alloc (.cells funCells 60)).alloc (.cells #[.slice (some ⟨w.heap.size+1+1+1,0,none⟩) 3 3,.slice (some ⟨w.heap.size+1+1+1+1,0,none⟩) 2 2,.slice none 0 0,.slice none 0 0] 27))
  (w.heap.size+1+1) (w.heap.size+1+1+1+1+1) (w.heap.size+1+1+1) (w.heap.size+1+1+1+1) us (.slice none 0 0) (.slice none 0 0) [] []:=by
 have h1:=Box.new w 27 us
 have h2:=Box.new (w.alloc (.cells us 27)) 27 #[.slice none 0 0,.slice none 0 0,.slice none 0 0,.slice none 0 0]
 have h3:=Box.new ((w.alloc (.cells us 27)).alloc (.cells #[.slice none 0 0,.slice none 0 0,.slice none 0 0,.slice none 0 0] 27)) 9 letterCells
 have h4:=Box.new (((w.alloc (.cells us 27)).alloc (.cells #[.slice none 0 0,.slice none 0 0,.slice none 0 0,.slice none 0 0] 27)).alloc (.cells letterCells 9)) 9 atomCells
 have h5:=Box.new ((((w.alloc (.cells us 27)).alloc (.cells #[.slice none 0 0,.slice none 0 0,.slice none 0 0,.slice none 0 0] 27)).alloc (.cells letterCells 9)).alloc (.cells atomCells 9)) 60 funCells
 have h6:=Box.new (((((w.alloc (.cells us 27)).alloc (.cells #[.slice none 0 0,.slice none 0 0,.slice none 0 0,.slice none 0 0] 27)).alloc (.cells letterCells 9)).alloc (.cells atomCells 9)).alloc (.cells funCells 60)) 27 #[.slice (some ⟨w.heap.size+1+1+1,0,none⟩) 3 3,.slice (some ⟨w.heap.size+1+1+1+1,0,none⟩) 2 2,.slice none 0 0,.slice none 0 0]
 simp only [World.size_alloc] at h2 h3 h4 h5 h6
 refine⟨((((h1.alloc _).alloc _).alloc _).alloc _).alloc _,(((h2.alloc _).alloc _).alloc _).alloc _,((h3.alloc _).alloc _).alloc _,h6,(h4.alloc _).alloc _,h5.alloc _,⟨rfl,.inl ⟨rfl,rfl⟩⟩,⟨rfl,.inl ⟨rfl,rfl⟩⟩,?_,by omega,by omega,by omega⟩
 exact(((((za w _).alloc (by simp) _).alloc (by simp;omega) _).alloc (by simp;omega) _).alloc (by simp;omega) _).alloc (by simp;omega) _
set_option maxRecDepth 100000 in
set_option maxHeartbeats 32000000 in
theorem zz17 (o:Ob) (va vf vp vc:Value) (w:World) (hv:ObAt w va vf vp vc o) (hnp:o.preds=[]→∀ k c,vp=.slice none k c→c=0)
  (hrec:o.preds=[]→∀ (o2:Ob) (ya yf yp yc:Value) (W:World),ObAt W ya yf yp yc o2→o2.preds≠[]→Calls Tryz.prog 9 #[.agg #[ya,yf,yp,yc]] W (FixPost W)) :
  Calls Tryz.prog 9 #[.agg #[va,vf,vp,vc]] w (FixPost w):=by
 obtain⟨A1,c1,rfl⟩:=CellsAt.form hv.atoms
 obtain⟨A2,c2,rfl⟩:=CellsAt.form hv.funs
 obtain⟨A3,c3,rfl⟩:=CellsAt.form hv.preds
 obtain⟨A4,c4,rfl⟩:=CellsAt.form hv.code
 have HV:=hD hv
 have HREC:=hD hrec
 have HNIL:=hD hnp
 have F0:=hD (six_new w #[.slice A1 o.atoms.length c1,.slice A2 o.funs.length c2,.slice A3 o.preds.length c3,.slice A4 o.code.length c4])
 clear hv hrec hnp
 go_enter Tryz.func9,Tryz.ntmps9
 go_upto_region 3 with(fail)
 obtain⟨w1,hw1⟩:∃ w1,(((((((w.alloc (.cells #[.slice A1 o.atoms.length c1,.slice A2 o.funs.length c2,.slice A3 o.preds.length c3,.slice A4 o.code.length c4] 27)).alloc (.cells #[.slice none 0 0,.slice none 0 0,.slice none 0 0,.slice none 0 0] 27)).alloc (.cells letterCells 9)).alloc (.cells atomCells 9)).alloc (.cells funCells 60)).alloc (.cells #[.slice (some ⟨w.heap.size+1+1+1,0,none⟩) 3 3,.slice (some ⟨w.heap.size+1+1+1+1,0,none⟩) 2 2,.slice none 0 0,.slice none 0 0] 27))=w1):=⟨_,rfl⟩
 rw [hw1] at F0
 have hw2:(((((((w.alloc (.cells #[.slice A1 o.atoms.length c1,.slice A2 o.funs.length c2,.slice A3 o.preds.length c3,.slice A4 o.code.length c4] 27)).alloc (.cells #[.slice none 0 0,.slice none 0 0,.slice none 0 0,.slice none 0 0] 27)).alloc (.cells #[.string ⟨#[97]⟩,.string ⟨#[98]⟩,.string ⟨#[99]⟩,.string ⟨#[100]⟩] 9)).alloc (.cells #[.string ⟨#[97]⟩,.string ⟨#[98]⟩,.string ⟨#[110,105,108]⟩] 9)).alloc (.cells #[.string ⟨#[102]⟩,.int .i64 1,.string ⟨#[103]⟩,.int .i64 2] 60)).alloc (.cells #[.slice (some ⟨w.heap.size+1+1+1,0,none⟩) 3 3,.slice (some ⟨w.heap.size+1+1+1+1,0,none⟩) 2 2,.slice none 0 0,.slice none 0 0] 27))=w1):=hw1
 rw [hw2]
 clear hw1 hw2
 obtain⟨g4,hg4⟩:∃ g,w.heap.size+1+1+1+1+1=g:=⟨_,rfl⟩
 obtain⟨gf,hgf⟩:∃ g,w.heap.size+1+1+1+1=g:=⟨_,rfl⟩
 obtain⟨ga,hga⟩:∃ g,w.heap.size+1+1+1=g:=⟨_,rfl⟩
 obtain⟨g3,hg3⟩:∃ g,w.heap.size+1+1=g:=⟨_,rfl⟩
 rw [hg4,hgf,hga,hg3] at F0
 rw [hg4,hgf,hga,hg3]
 clear hg4 hgf hga hg3
 go_wp2
 go_loopw [5] (fun i wr=>∃ (k:Nat) (vc:Value),k≤o.code.length∧k≤30∧i=.int .i64 k∧Hid (Fx w wr g3 g4 ga gf #[.slice A1 o.atoms.length c1,.slice A2 o.funs.length c2,.slice A3 o.preds.length c3,.slice A4 o.code.length c4] (.slice none 0 0) vc [] (List.replicate k ((0,0,0,0,0):Ins)))) (fun i _=>30 - (intOf i).toNat)
 case atStart=>exact⟨0,_,by omega,by omega,rfl,F0⟩
 obtain⟨n,vc,hn,hn30,rfl,HF⟩:=hrel
 clear F0
 have q3:wr.cell? ⟨w.heap.size,3,none⟩=some (.slice A4 o.code.length c4):=HF.out.b1.cell 3
 go_upto_region 4 with(fail)
 obtain⟨b,hb⟩:∃ b,decide (n<o.code.length∧n<30)=b:=⟨_,rfl⟩
 have HB:=hD hb
 clear hb
 go_cut [29] (fun s wc=>s=.bool b∧wc=wr)
 case first=>
  by_cases h1:(n:Int)<(o.code.length:Int)
  ·by_cases h2:(n:Int)<30
   ·have e:Hid (b=true):=hD (by rw [← HB.out];simp;omega)
    go_wp2
    go_meet
    exact⟨by rw [e.out],rfl⟩
   ·have e:Hid (b=false):=hD (by rw [← HB.out];simp;omega)
    go_wp2
    go_meet
    exact⟨by rw [e.out],rfl⟩
  ·have e:Hid (b=false):=hD (by rw [← HB.out];simp;omega)
   go_wp2
   go_meet
   exact⟨by rw [e.out],rfl⟩
 case rest=>
 obtain⟨rfl,rfl⟩:=hcut
 cases b
 case true=>
  have hlt:=of_decide_eq_true HB.out
  obtain⟨v8,w8,hr8,HA8⟩:=zp1 slRIns HF.out.rc [.int .i64 0,.int .i64 0,.int .i64 0,.int .i64 0,.int .i64 0] rfl (by intro u hu;simp at hu;subst hu;rfl) (by simp;omega) HF.out.below.size 25
  obtain⟨A8,c8,hv8⟩:=HA8.out.form
  subst hv8
  obtain⟨hT8,z0,z1⟩:=HF.out.putc HA8.out
  rw [List.length_replicate] at hr8 hT8
  have HT8:=hD (hT8.same (lc':=List.replicate (n+1) ((0,0,0,0,0):Ins)) (by rw [List.replicate_succ']))
  have HR8:=hD hr8
  have p3:wc.cell? ⟨g4,3,none⟩=some vc:=HF.out.b4.cell 3
  have p3a:=fun oo=>(HF.out.b4.alloc oo).cell 3
  clear hr8 hT8 q3
  go_wp2_with (at_builtin;refine zv HR8.out rfl _ _ rfl rfl rfl ?_)
  go_roundw
  case rel=>first | exact⟨n+1,_,by omega,by omega,by go_num,HT8⟩ | exact⟨_,_,_,_,_,_,_,_,⟨n+1,_,by omega,by omega,by go_num,HT8⟩,rfl⟩
  case measure=>simp [intOf];omega
 obtain⟨Ac,cc,hvc,_⟩:=zl HF.out.rc
 rw [List.length_replicate] at hvc
 subst hvc
 clear HB q3
 have p3:wc.cell? ⟨g4,3,none⟩=some (.slice Ac n cc):=HF.out.b4.cell 3
 have F1:=HF
 clear HF
 go_upto_region 8 with(fail)
 clear p3
 go_wp2
 go_loopw [7,8,9] (fun i pp kk wr=>∃ (k:Nat) (vp:Value) (lp:List (ByteArray × Int × Int)),k≤o.preds.length∧k≤4∧i=.int .i64 k∧Hid (lp.length=k)∧Hid (Preds n lp)∧Hid (Fx w wr g3 g4 ga gf #[.slice A1 o.atoms.length c1,.slice A2 o.funs.length c2,.slice A3 o.preds.length c3,.slice A4 o.code.length c4] vp (.slice Ac n cc) lp (List.replicate n ((0,0,0,0,0):Ins)))) (fun i _ _ _=>4 - (intOf i).toNat)
 case atStart=>exact⟨0,_,[],by omega,by omega,rfl,hD rfl,hD (Preds.nil n),F1⟩
 obtain⟨k,vp,lp,hk,hk4,rfl,HLP,HPR,HF⟩:=hrel
 clear F1
 have q2:wr.cell? ⟨w.heap.size,2,none⟩=some (.slice A3 o.preds.length c3):=HF.out.b1.cell 2
 go_upto_region 9 with(fail)
 obtain⟨b,hb⟩:∃ b,decide (k<o.preds.length∧k<4)=b:=⟨_,rfl⟩
 have HB:=hD hb
 clear hb
 go_cut [49] (fun s wc=>s=.bool b∧wc=wr)
 case first=>
  by_cases h1:(k:Int)<(o.preds.length:Int)
  ·by_cases h2:(k:Int)<4
   ·have e:Hid (b=true):=hD (by rw [← HB.out];simp;omega)
    go_wp2
    go_meet
    exact⟨by rw [e.out],rfl⟩
   ·have e:Hid (b=false):=hD (by rw [← HB.out];simp;omega)
    go_wp2
    go_meet
    exact⟨by rw [e.out],rfl⟩
  ·have e:Hid (b=false):=hD (by rw [← HB.out];simp;omega)
   go_wp2
   go_meet
   exact⟨by rw [e.out],rfl⟩
 case rest=>
 obtain⟨rfl,rfl⟩:=hcut
 cases b
 case true=>
  obtain⟨wb,hwb⟩:∃ wb,wb=wc:=⟨_,rfl⟩
  subst hwb
  have hlt:=of_decide_eq_true HB.out
  obtain⟨b,off,hA3,hb,hc0,hc1,hc2⟩:=zd1 HV.out.preds k hlt.1
  subst hA3
  have d1:=(HF.out.below.cell (p:=⟨b,off+k * 3+1,none⟩) hb).trans hc1
  have d2:=(HF.out.below.cell (p:=⟨b,off+k * 3+2,none⟩) hb).trans hc2
  clear hc0 hc1 hc2
  generalize o.preds[k].2.1=ar at d1
  generalize o.preds[k].2.2=en at d2
  obtain⟨u,hu⟩:∃ u:Nat,IntKind.u64.wrap ar=(u:Int):=⟨(IntKind.u64.wrap ar).toNat,by have:=zn12 ar;omega⟩
  have hu4:(u:Int).tmod 4=((u % 4:Nat):Int):=by rw [Int.tmod_eq_emod_of_nonneg (by omega)];omega
  obtain⟨r,hr⟩:∃ r:Nat,u % 4=r:=⟨_,rfl⟩
  rw [hr] at hu4
  have hr4:r<4:=by omega
  have hw1:IntKind.u64.wrap (r:Int)=(r:Int):=by show(r:Int) % 18446744073709551616=_;omega
  have hw2:IntKind.i64.wrap (r:Int)=(r:Int):=IntWalk.i64_in _ (by omega)
  have hw3:wrap64 (r:Int)=(r:Int):=by unfold wrap64;omega
  have d3:wb.cell? ⟨g3,k,none⟩=some (.string (letter k)):=(HF.out.b3.cell k).trans (letter_at k hlt.2)
  have hcat:=zf20 k
  have HPN:=hD (rfl:pname k=pname k)
  have hls:(9223372036854775807<1+(letter k).size)=False:=by rw [zo16];simp
  generalize letter k=lt at d3 hcat hls
  generalize hpn:pname k=pn at hcat HPN
  have HPN:=hD hpn
  clear hpn
  have k1:(k:Int)<4:=by omega
  have k2:(0:Int)≤(k:Int):=by omega
  have k3:(k:Int)<(o.preds.length:Int):=by omega
  clear hr
  go_upto_region 11 with(fail)
  refine wp_region_held_drew (S:=(fun W=>W.cell? ⟨w.heap.size,2,none⟩=some (.slice (some ⟨b,off,none⟩) o.preds.length c3)∧W.cell? ⟨b,off+k * 3+1,none⟩=some (.int .i64 ar)∧W.cell? ⟨g3,k,none⟩=some (.string lt))) (by kernel_rfl) ?_ (fun hHeld=>?_)
  ·exact⟨q2,d1,d3⟩
  have st:StH [0,1,2,3,4,5,6,7,8,9,10,11,12,13]:=trivial
  iterate 14
   refine tHL st (v:=?_) rfl ?_ ?_
   rotate_left 1
   ·(intro w' hSw;(try dsimp only at hSw);go_simp;try with_reducible rfl)
   replace st:=st.tl
   try simp only [qA,qB,qC,Act.put,qD,qE,qF]
  refine wpAnyH_take (i:=14) (v:=.agg #[.string pn,.int .i64 r,.int .i64 65535]) rfl (by kernel_rfl) (by kernel_rfl) (by kernel_rfl) (fun _ _ _ h=>h) (Or.inl ⟨by rfl,fun w' hSw=>by kernel_rfl⟩) (by assumption) ?_
  try simp only [qA,qB,qC,Act.put,qD,qE,qF]
  refine wH1 (i:=15) (by kernel_rfl) rfl fun K hK=>?_
  go_simp
  refine hK.out _ _ ?_ (fun hHeld=>?_)
  ·((try dsimp only);first | with_reducible assumption | go_keep)
  clear hK K
  try simp only [qA,qB,qC,Act.put,qD,qE,qF]
  refine wH1 (i:=16) (by kernel_rfl) rfl fun K hK=>?_
  go_simp
  refine hK.out _ _ ?_ (fun hHeld=>?_)
  ·((try dsimp only);first | with_reducible assumption | go_keep)
  clear hK K
  try simp only [qA,qB,qC,Act.put,qD,qE,qF]
  refine wpAnyH_done (by kernel_rfl) ?_ _
  have HBX:Hid (Box ((wb.alloc (.cells #[.string pn,.int .i64 r,.int .i64 65535] 63)).drew) wb.heap.size 63 #[.string pn,.int .i64 r,.int .i64 65535]):=hD (Box.new wb _ _).drew
  have HBL:Hid (Below wb.heap.size wb ((wb.alloc (.cells #[.string pn,.int .i64 r,.int .i64 65535] 63)).drew)):=hD ((za wb _).trans ((bdrew1 _).mono (by simp)))
  obtain⟨W2,hW2⟩:∃ W2,(wb.alloc (.cells #[.string pn,.int .i64 r,.int .i64 65535] 63)).drew=W2:=⟨_,rfl⟩
  rw [hW2] at HBX HBL ⊢
  obtain⟨g8,hg8⟩:∃ g8,wb.heap.size=g8:=⟨_,rfl⟩
  rw [hg8] at HBX ⊢
  have HG8:=hD hg8
  have HSN:Hid (∀ e,EntOk n lp k e→Preds n (lp ++ [(pn,(r:Int),e)])):=hD (fun e he=>by
   have:=HPR.out.snoc (a:=(r:Int)) (e:=e) (by rw [HLP.out];exact hlt.2) (rng4 hr4) (by rw [HLP.out];exact he)
   rw [HLP.out,HPN.out] at this
   exact this)
  have d2':=(HBL.out.cell (p:=⟨b,off+k * 3+2,none⟩) (Nat.lt_of_lt_of_le hb HF.out.below.size)).trans d2
  have q2':W2.cell? ⟨w.heap.size,2,none⟩=some (.slice (some ⟨b,off,none⟩) o.preds.length c3):=(HF.out.up HBL.out).b1.cell 2
  clear hW2 hg8 d1 d2 d3 hcat hls hu hu4 hw1 hw2 hw3 hHeld q2
  go_upto_region 12 with(fail)
  obtain⟨t,ht⟩:∃ t,decide (0<n∧0≤en∧en<1000)=t:=⟨_,rfl⟩
  have HTT:=hD ht
  clear ht
  go_cut [86] (fun s wc=>s=.bool t∧wc=W2)
  case first=>
   by_cases h1:(0:Int)<(n:Int)
   ·by_cases h2:(0:Int)≤en
    ·by_cases h3:en<1000
     ·have e:Hid (t=true):=hD (by rw [← HTT.out];simp;omega)
      go_wp2
      go_meet
      exact⟨by rw [e.out],rfl⟩
     ·have e:Hid (t=false):=hD (by rw [← HTT.out];simp;omega)
      go_wp2
      go_meet
      exact⟨by rw [e.out],rfl⟩
    ·have e:Hid (t=false):=hD (by rw [← HTT.out];simp;omega)
     go_wp2
     go_meet
     exact⟨by rw [e.out],rfl⟩
   ·have e:Hid (t=false):=hD (by rw [← HTT.out];simp;omega)
    go_wp2
    go_meet
    exact⟨by rw [e.out],rfl⟩
  case rest=>
  obtain⟨rfl,hwd⟩:=hcut
  subst hwd
  cases t
  case true=>
   have ht3:=of_decide_eq_true HTT.out
   obtain⟨x,hx,hx0,hxn,hxw,hn0,hn0b⟩:=tmod_nat ht3.2.1 ht3.1 hn30
   have p2:wc.cell? ⟨g8,2,none⟩=some (.int .i64 65535):=HBX.out.cell 2
   have z2:wc.frozen? ⟨g8,2,none⟩=false:=HBX.out.frozen 2
   have HBX2:Hid (Box (wc.setCell ⟨g8,2,none⟩ (.int .i64 (x:Int))) g8 63 #[.string pn,.int .i64 r,.int .i64 (x:Int)]):=hD (by have:=HBX.out.set_ 2 (.int .i64 (x:Int));simpa using this)
   have HBL2:Hid (Below wb.heap.size wb (wc.setCell ⟨g8,2,none⟩ (.int .i64 (x:Int)))):=hD (HBL.out.setCell (p:=⟨g8,2,none⟩) (by rw [HG8.out];exact Nat.le_refl _) _)
   have HEK:Hid (EntOk n lp 0 (x:Int)):=hD (EntOk.zero (.inr ⟨hx0,hxn⟩))
   go_upto_region 14 with(fail)
   clear p2 z2 hx hx0 hxw hn0 hn0b HTT HBX HBL q2' d2'
   go_wp2
   go_loopw [9] (fun kk wr=>∃ (m:Nat) (e:Int),m≤k∧kk=.int .i64 m∧Hid (Box wr g8 63 #[.string pn,.int .i64 r,.int .i64 e])∧Hid (Below wb.heap.size wb wr)∧Hid (EntOk n lp m e)) (fun kk _=>k - (intOf kk).toNat)
   case atStart=>exact⟨0,_,by omega,rfl,HBX2,HBL2,HEK⟩
   obtain⟨m,e,hm,rfl,HBX,HBL,HEN⟩:=hrel
   clear HBX2 HBL2 HEK
   have HFM:=hD (HF.out.up HBL.out)
   by_cases hmk:m<k
   case pos=>
    obtain⟨gp,cp,hvp⟩:=zz8 HF.out.rp (by rw [HLP.out];omega)
    rw [HLP.out] at hvp
    have hml:m<lp.length:=by rw [HLP.out];exact hmk
    have a1:wr.cell? ⟨gp,m * 3+2,none⟩=some (.int .i64 lp[m].2.2):=by
     have h:=HFM.out.rp
     rw [hvp,← HLP.out] at h
     rw [h.cellAt (m * 3+2) (by omega),zb3 predC 3 (fun _=>rfl) lp m lp[m] (by simp [hml]) 2 (by omega)]
     rfl
    have a2:wr.cell? ⟨g4,2,none⟩=some (.slice (some ⟨gp,0,none⟩) k cp):=by rw [← hvp];exact HFM.out.b4.cell 2
    have a3:wr.cell? ⟨g8,2,none⟩=some (.int .i64 e):=HBX.out.cell 2
    have a4:wr.frozen? ⟨g8,2,none⟩=false:=HBX.out.frozen 2
    have HST:Hid (lp[m].2.2≠e→EntOk n lp (m+1) e):=hD (fun h=>HEN.out.step hml h)
    generalize lp[m].2.2=em at a1 HST
    have m1:(m:Int)<(k:Int):=by omega
    have m2:(0:Int)≤(m:Int):=by omega
    clear hvp hml
    by_cases he:em=e
    ·subst he
     have HBX3:Hid (Box ((wr.drew).setCell ⟨g8,2,none⟩ (.int .i64 65535)) g8 63 #[.string pn,.int .i64 r,.int .i64 65535]):=hD (by have:=HBX.out.drew.set_ 2 (.int .i64 65535);simpa using this)
     have HBL3:Hid (Below wb.heap.size wb ((wr.drew).setCell ⟨g8,2,none⟩ (.int .i64 65535))):=hD ((HBL.out.trans ((bdrew1 wr).mono HBL.out.size)).setCell (p:=⟨g8,2,none⟩) (by rw [HG8.out];exact Nat.le_refl _) _)
     go_upto_region 17 with(fail)
     go_quiet (fail)
     go_wp2
     go_roundw
     case rel=>first | exact⟨m+1,_,by omega,by go_num,hD (zg3 HBX.out nq),hD (zk2 HBL.out HG8.out nq),hD (EntOk.none _ _ _)⟩ | exact⟨_,_,_,_,_,_,_,_,_,_,_,⟨m+1,_,by omega,by go_num,hD (zg3 HBX.out nq),hD (zk2 HBL.out HG8.out nq),hD (EntOk.none _ _ _)⟩,rfl⟩
     case measure=>simp [intOf];omega
    ·have heb:(em == e)=false:=by simpa using he
     have HEN2:=hD (HST.out he)
     clear he
     go_upto_region 17 with(fail)
     go_quiet (fail)
     have HBX3:=hD (HBX.out.drewN nq)
     have HBL3:=hD (HBL.out.trans ((zq4 wr nq).mono HBL.out.size))
     go_wp2
     go_roundw
     case rel=>first | exact⟨m+1,_,by omega,by go_num,HBX3,HBL3,HEN2⟩ | exact⟨_,_,_,_,_,_,_,_,_,_,_,⟨m+1,_,by omega,by go_num,HBX3,HBL3,HEN2⟩,rfl⟩
     case measure=>simp [intOf];omega
   obtain rfl:m=k:=by omega
   obtain⟨v9,w9,hr9,HA9⟩:=zp1 zo13 HFM.out.rp [.string pn,.int .i64 r,.int .i64 e] rfl (by intro u hu;simp only [List.mem_cons,List.not_mem_nil,or_false] at hu;rcases hu with rfl | rfl | rfl <;> rfl) (by rw [HLP.out];omega) HFM.out.below.size 24
   obtain⟨A9,c9,hv9⟩:=HA9.out.form
   subst hv9
   obtain⟨hT9,z0,z1⟩:=HFM.out.putp HA9.out
   rw [HLP.out] at hr9 hT9
   have HT9:=hD hT9
   have HR9:=hD hr9
   have HPR2:=hD (HSN.out _ HEN.out)
   have HBS:=hD (fun w=>zm2 pn r e w)
   have HLP2:Hid ((lp ++ [(pn,(r:Int),e)]).length=m+1):=hD (by rw [List.length_append,HLP.out];rfl)
   have a0:wr.cell? ⟨g8,0,none⟩=some (.string pn):=HBX.out.cell 0
   have a1:wr.cell? ⟨g8,1,none⟩=some (.int .i64 r):=HBX.out.cell 1
   have a2:wr.cell? ⟨g8,2,none⟩=some (.int .i64 e):=HBX.out.cell 2
   have p2:wr.cell? ⟨g4,2,none⟩=some vp:=HFM.out.b4.cell 2
   clear hr9 hT9 hmk
   go_wp2_with (first
    | (refine za5 (HBS.out _) rfl _ rfl (by kernel_rfl) ?_)
    | (at_builtin;refine zv HR9.out rfl _ _ rfl rfl rfl ?_))
   go_roundw
   case rel=>first | exact⟨m+1,_,_,by omega,by omega,by go_num,HLP2,HPR2,HT9⟩ | exact⟨_,_,_,_,_,_,_,_,_,_,_,_,_,_,_,_,_,_,_,_,_,_,_,_,_,⟨m+1,_,_,by omega,by omega,by go_num,HLP2,HPR2,HT9⟩,rfl⟩
   case measure=>simp [intOf];omega
  case false=>
   have HEK:Hid (EntOk n lp 0 65535):=hD (EntOk.none _ _ _)
   have HBX2:=HBX
   have HBL2:=HBL
   go_upto_region 14 with(fail)
   clear HTT HBX HBL q2' d2'
   go_wp2
   go_loopw [9] (fun kk wr=>∃ (m:Nat) (e:Int),m≤k∧kk=.int .i64 m∧Hid (Box wr g8 63 #[.string pn,.int .i64 r,.int .i64 e])∧Hid (Below wb.heap.size wb wr)∧Hid (EntOk n lp m e)) (fun kk _=>k - (intOf kk).toNat)
   case atStart=>exact⟨0,_,by omega,rfl,HBX2,HBL2,HEK⟩
   obtain⟨m,e,hm,rfl,HBX,HBL,HEN⟩:=hrel
   clear HBX2 HBL2 HEK
   have HFM:=hD (HF.out.up HBL.out)
   by_cases hmk:m<k
   case pos=>
    obtain⟨gp,cp,hvp⟩:=zz8 HF.out.rp (by rw [HLP.out];omega)
    rw [HLP.out] at hvp
    have hml:m<lp.length:=by rw [HLP.out];exact hmk
    have a1:wr.cell? ⟨gp,m * 3+2,none⟩=some (.int .i64 lp[m].2.2):=by
     have h:=HFM.out.rp
     rw [hvp,← HLP.out] at h
     rw [h.cellAt (m * 3+2) (by omega),zb3 predC 3 (fun _=>rfl) lp m lp[m] (by simp [hml]) 2 (by omega)]
     rfl
    have a2:wr.cell? ⟨g4,2,none⟩=some (.slice (some ⟨gp,0,none⟩) k cp):=by rw [← hvp];exact HFM.out.b4.cell 2
    have a3:wr.cell? ⟨g8,2,none⟩=some (.int .i64 e):=HBX.out.cell 2
    have a4:wr.frozen? ⟨g8,2,none⟩=false:=HBX.out.frozen 2
    have HST:Hid (lp[m].2.2≠e→EntOk n lp (m+1) e):=hD (fun h=>HEN.out.step hml h)
    generalize lp[m].2.2=em at a1 HST
    have m1:(m:Int)<(k:Int):=by omega
    have m2:(0:Int)≤(m:Int):=by omega
    clear hvp hml
    by_cases he:em=e
    ·subst he
     have HBX3:Hid (Box ((wr.drew).setCell ⟨g8,2,none⟩ (.int .i64 65535)) g8 63 #[.string pn,.int .i64 r,.int .i64 65535]):=hD (by have:=HBX.out.drew.set_ 2 (.int .i64 65535);simpa using this)
     have HBL3:Hid (Below wb.heap.size wb ((wr.drew).setCell ⟨g8,2,none⟩ (.int .i64 65535))):=hD ((HBL.out.trans ((bdrew1 wr).mono HBL.out.size)).setCell (p:=⟨g8,2,none⟩) (by rw [HG8.out];exact Nat.le_refl _) _)
     go_upto_region 17 with(fail)
     go_quiet (fail)
     go_wp2
     go_roundw
     case rel=>first | exact⟨m+1,_,by omega,by go_num,hD (zg3 HBX.out nq),hD (zk2 HBL.out HG8.out nq),hD (EntOk.none _ _ _)⟩ | exact⟨_,_,_,_,_,_,_,_,_,_,_,⟨m+1,_,by omega,by go_num,hD (zg3 HBX.out nq),hD (zk2 HBL.out HG8.out nq),hD (EntOk.none _ _ _)⟩,rfl⟩
     case measure=>simp [intOf];omega
    ·have heb:(em == e)=false:=by simpa using he
     have HEN2:=hD (HST.out he)
     clear he
     go_upto_region 17 with(fail)
     go_quiet (fail)
     have HBX3:=hD (HBX.out.drewN nq)
     have HBL3:=hD (HBL.out.trans ((zq4 wr nq).mono HBL.out.size))
     go_wp2
     go_roundw
     case rel=>first | exact⟨m+1,_,by omega,by go_num,HBX3,HBL3,HEN2⟩ | exact⟨_,_,_,_,_,_,_,_,_,_,_,⟨m+1,_,by omega,by go_num,HBX3,HBL3,HEN2⟩,rfl⟩
     case measure=>simp [intOf];omega
   obtain rfl:m=k:=by omega
   obtain⟨v9,w9,hr9,HA9⟩:=zp1 zo13 HFM.out.rp [.string pn,.int .i64 r,.int .i64 e] rfl (by intro u hu;simp only [List.mem_cons,List.not_mem_nil,or_false] at hu;rcases hu with rfl | rfl | rfl <;> rfl) (by rw [HLP.out];omega) HFM.out.below.size 24
   obtain⟨A9,c9,hv9⟩:=HA9.out.form
   subst hv9
   obtain⟨hT9,z0,z1⟩:=HFM.out.putp HA9.out
   rw [HLP.out] at hr9 hT9
   have HT9:=hD hT9
   have HR9:=hD hr9
   have HPR2:=hD (HSN.out _ HEN.out)
   have HBS:=hD (fun w=>zm2 pn r e w)
   have HLP2:Hid ((lp ++ [(pn,(r:Int),e)]).length=m+1):=hD (by rw [List.length_append,HLP.out];rfl)
   have a0:wr.cell? ⟨g8,0,none⟩=some (.string pn):=HBX.out.cell 0
   have a1:wr.cell? ⟨g8,1,none⟩=some (.int .i64 r):=HBX.out.cell 1
   have a2:wr.cell? ⟨g8,2,none⟩=some (.int .i64 e):=HBX.out.cell 2
   have p2:wr.cell? ⟨g4,2,none⟩=some vp:=HFM.out.b4.cell 2
   clear hr9 hT9 hmk
   go_wp2_with (first
    | (refine za5 (HBS.out _) rfl _ rfl (by kernel_rfl) ?_)
    | (at_builtin;refine zv HR9.out rfl _ _ rfl rfl rfl ?_))
   go_roundw
   case rel=>first | exact⟨m+1,_,_,by omega,by omega,by go_num,HLP2,HPR2,HT9⟩ | exact⟨_,_,_,_,_,_,_,_,_,_,_,_,_,_,_,_,_,_,_,_,_,_,_,_,_,⟨m+1,_,_,by omega,by omega,by go_num,HLP2,HPR2,HT9⟩,rfl⟩
   case measure=>simp [intOf];omega
 have HNP:Hid (k=0→o.preds=[]):=hD (fun h=>by
  have hb:=of_decide_eq_false HB.out
  subst h
  exact List.length_eq_zero_iff.1 (by omega))
 obtain⟨Ap,cp,hvp,_⟩:=zl HF.out.rp
 rw [HLP.out] at hvp
 subst hvp
 have F2:=HF
 clear HB q2 HF
 go_wp2
 go_loopw [10,11,12,13,14] (fun i px ll kk mm wr=>∃ (j:Nat) (lc:List Ins),j≤n∧i=.int .i64 j∧Hid (lc.length=n)∧Hid (∀ x ∈ lc.take j,insErr 3 2 k n x=0)∧Hid (Fx w wr g3 g4 ga gf #[.slice A1 o.atoms.length c1,.slice A2 o.funs.length c2,.slice A3 o.preds.length c3,.slice A4 o.code.length c4] (.slice Ap k cp) (.slice Ac n cc) lp lc)) (fun i _ _ _ _ _=>n - (intOf i).toNat)
 case atStart=>exact⟨0,_,by omega,rfl,hD (by simp),hD (by simp),F2⟩
 obtain⟨j,lc,hj,rfl,HLC,HOKS,HF⟩:=hrel
 clear F2
 by_cases hjn:j<n
 case neg=>
  obtain rfl:j=n:=by omega
  have HCK:=hD (fix_check (lp:=lp) (lc:=lc) (by rw [HLC.out];exact HPR.out) (by rw [HLC.out];exact hn30) (by rw [HLC.out,HLP.out];have:=HOKS.out;rwa [← HLC.out,List.take_length,HLC.out] at this))
  have b0:=HF.out.b2.cell 0
  have b1:=HF.out.b2.cell 1
  have b2:=HF.out.b2.cell 2
  have b3:=HF.out.b2.cell 3
  have z0:=HF.out.b2.frozen 0
  have z1:=HF.out.b2.frozen 1
  have z2:=HF.out.b2.frozen 2
  have z3:=HF.out.b2.frozen 3
  have o0:=HF.out.b4.cell 0
  have o1:=HF.out.b4.cell 1
  have o2:=HF.out.b4.cell 2
  have o3:=HF.out.b4.cell 3
  go_wp2
  refine zy8 HF.out.b2 (by intro W c0 c1 c2 c3;simp [results,Tryz.results9,go_sem,c0,c1,c2,c3]) ?_
  intro W hW hFr
  refine⟨_,_,_,_,_,rfl,fx_later HF.out hFr,HCK.out,(fun k c h=>by injection h with h1;cases h1),HF.out.below.trans (hFr.below HF.out.below.size (fun k hk=>by omega)),fx_more HF.out hFr⟩
 obtain⟨wo,hwo⟩:∃ wo,wo=wr:=⟨_,rfl⟩
 subst hwo
 obtain⟨b,off,hA4,hb,hc0,hc1,hc2,hc3,hc4⟩:=zm3 HV.out.code j (Nat.lt_of_lt_of_le hjn hn)
 subst hA4
 have d0:=(HF.out.below.cell (p:=⟨b,off+j * 5,none⟩) hb).trans hc0
 have HIN:Hid (∀ W:World,Below w.heap.size w W→∀ m:Nat,m<4→W.cell? ⟨b,off+j * 5+1+m,none⟩=some (.int .i64 ([o.code[j].2.1,o.code[j].2.2.1,o.code[j].2.2.2.1,o.code[j].2.2.2.2].getD m 0))):=hD (fun W hW m hm=>by
  match m,hm with
  | 0,_=>exact(hW.cell (p:=⟨b,off+j * 5+1,none⟩) hb).trans hc1
  | 1,_=>exact(hW.cell (p:=⟨b,off+j * 5+2,none⟩) hb).trans hc2
  | 2,_=>exact(hW.cell (p:=⟨b,off+j * 5+3,none⟩) hb).trans hc3
  | 3,_=>exact(hW.cell (p:=⟨b,off+j * 5+4,none⟩) hb).trans hc4)
 generalize [o.code[j].2.1,o.code[j].2.2.1,o.code[j].2.2.2.1,o.code[j].2.2.2.2]=il at HIN
 clear hc0 hc1 hc2 hc3 hc4
 generalize o.code[j].1=i0 at d0
 obtain⟨r,u,hu,hu27,hr27,hw1,hw2,hw3⟩:=mod_nat i0 27 (by decide) (by decide)
 have hu27':(u:Int).tmod 27=(r:Int):=hu27
 clear hu27
 have hcl:(j:Int)<(o.code.length:Int):=by omega
 have hj0:(0:Int)≤(j:Int):=by omega
 have q3:wo.cell? ⟨w.heap.size,3,none⟩=some (.slice (some ⟨b,off,none⟩) o.code.length c4):=HF.out.b1.cell 3
 have HBA:Hid (Box (wo.alloc (.cells #[.int .i64 (r:Int),.int .i64 0,.int .i64 0,.int .i64 0,.int .i64 0] 54)) wo.heap.size 54 (argCells r [0,0,0,0])):=hD (Box.new wo _ _)
 have HBL0:Hid (Below wo.heap.size wo (wo.alloc (.cells #[.int .i64 (r:Int),.int .i64 0,.int .i64 0,.int .i64 0,.int .i64 0] 54))):=hD (za wo _)
 go_upto_region 24 with(refine zz4 (zc16 (r:Int) _) rfl _ rfl (by kernel_rfl) ?_)
 obtain⟨wa,hwa⟩:∃ wa,wo.alloc (.cells #[.int .i64 (r:Int),.int .i64 0,.int .i64 0,.int .i64 0,.int .i64 0] 54)=wa:=⟨_,rfl⟩
 rw [hwa] at HBA HBL0 ⊢
 obtain⟨g11,hg11⟩:∃ g11,wo.heap.size=g11:=⟨_,rfl⟩
 rw [hg11] at HBA ⊢
 have HG11:=hD hg11
 clear hwa hg11 hu hu27' hw1 hw2 hw3 d0 q3
 have e0:wa.cell? ⟨g11,0,none⟩=some (.int .i64 (r:Int)):=HBA.out.cell 0
 have HA0:=hD (Args.zero k n (r:Int))
 have HOPS:=hD (fun w=>zl2 (r:Int) w)
 have HFEW:=hD (zv1 (r:Int))
 have HDONE:Hid (∀ l,Args k n (r:Int) (opsOf (r:Int)).length l→insErr 3 2 k n ((r:Int),l.getD 0 0,l.getD 1 0,l.getD 2 0,l.getD 3 0)=0):=hD (fun l h=>h.done (rng27 hr27))
 by_cases hop:opsOf (r:Int)=[]
 case pos=>
  go_upto_region 25 with(go_at_call 17;refine(HOPS.out _).mono ?_;rintro e w7 hN;obtain⟨rfl,rfl⟩:=zu9 hop hN;clear hN)
  clear e0
  go_wp2
  go_loopw [13,14] (fun kk mm wr=>kk=.int .i64 0∧Hid (Box wr g11 54 (argCells r [0,0,0,0]))∧Hid (Below wo.heap.size wo wr)) (fun _ _ _=>0)
  case atStart=>exact⟨rfl,HBA,HBL0⟩
  obtain⟨rfl,HBX,HBL⟩:=hrel
  obtain⟨l,hl⟩:∃ l:List Int,[0,0,0,0]=l:=⟨_,rfl⟩
  rw [hl] at HBX HA0
  have HIE:=hD (HDONE.out l (by rw [hop];exact HA0.out))
  clear hl HBA HBL0 HA0
  have HFM:=hD (HF.out.up HBL.out)
  obtain⟨gc,cc',hvc⟩:=zz8 HFM.out.rc (by rw [HLC.out];exact Nat.lt_of_le_of_lt (Nat.zero_le _) hjn)
  rw [HLC.out] at hvc
  injection hvc with hv1 hv2 hv3
  subst hv1 hv3
  have hfm:=HFM.out
  have hjl:j<lc.length:=by rw [HLC.out];exact hjn
  have HLE:=hD (show(Value.slice (some ⟨gc,0,none⟩) n cc)=.slice (some ⟨gc,0,none⟩) lc.length cc by rw [HLC.out])
  rw [HLE.out] at hfm
  obtain⟨y0,y1,y2,y3,y4,t0,t1,t2,t3,t4,f0,f1,f2,f3,f4⟩:=hfm.row j hjl
  have hset:=hfm.setc j hjl ((r:Int),l.getD 0 0,l.getD 1 0,l.getD 2 0,l.getD 3 0)
  rw [← HLE.out] at hset
  have HSET:=hD hset
  have HLC2:Hid ((lc.set j ((r:Int),l.getD 0 0,l.getD 1 0,l.getD 2 0,l.getD 3 0)).length=n):=hD (by rw [List.length_set];exact HLC.out)
  have HOK2:=hD (ok_step hjl HOKS.out HIE.out)
  have x0:wr.cell? ⟨g11,0,none⟩=some (.int .i64 (r:Int)):=HBX.out.cell 0
  have x1:wr.cell? ⟨g11,1,none⟩=some (.int .i64 (l.getD 0 0)):=HBX.out.cell 1
  have x2:wr.cell? ⟨g11,2,none⟩=some (.int .i64 (l.getD 1 0)):=HBX.out.cell 2
  have x3:wr.cell? ⟨g11,3,none⟩=some (.int .i64 (l.getD 2 0)):=HBX.out.cell 3
  have x4:wr.cell? ⟨g11,4,none⟩=some (.int .i64 (l.getD 3 0)):=HBX.out.cell 4
  have p3:wr.cell? ⟨g4,3,none⟩=some (.slice (some ⟨gc,0,none⟩) n cc):=HFM.out.b4.cell 3
  have j1:(j:Int)<(n:Int):=by omega
  generalize l.getD 0 0=l0 at x1 HSET HLC2 HOK2
  generalize l.getD 1 0=l1 at x2 HSET HLC2 HOK2
  generalize l.getD 2 0=l2 at x3 HSET HLC2 HOK2
  generalize l.getD 3 0=l3 at x4 HSET HLC2 HOK2
  clear hset hfm hjl
  go_wp2
  go_roundw
  case rel=>first | exact⟨j+1,_,by omega,by go_num,HLC2,HOK2,HSET⟩ | exact⟨_,_,_,_,_,_,_,_,_,_,_,_,_,_,_,_,_,_,_,_,_,_,_,_,_,_,_,_,_,_,_,_,_,_,_,_,_,_,_,_,_,_,_,_,_,_,_,_,_,_,_,_,_,_,_,_,_,_,_,_,_,_,_,_,_,_,_,_,_,_,_,_,_,_,_,_,_,_,_,_,_,_,_,_,_,_,_,⟨j+1,_,by omega,by go_num,HLC2,HOK2,HSET⟩,rfl⟩
  case measure=>simp [intOf];omega
 case neg=>
 obtain⟨L,hL⟩:∃ L,opsOf (r:Int)=L:=⟨_,rfl⟩
 have HKIND:Hid (∀ m,m<L.length→1≤L.getD m 0∧L.getD m 0≤9):=hD (fun m h=>by rw [← hL] at h ⊢;exact ops_kind8 _ m h)
 rw [hL] at HOPS hop HFEW HDONE
 have HLL:=hD hL
 clear hL
 obtain⟨gl,hgl⟩:∃ gl,wa.heap.size=gl:=⟨_,rfl⟩
 have HB7:=hD (HBA.out.below (za wa (.cells (L.map (Value.int .i64)).toArray 3)) HBA.out.lt)
 have HD7:=hD (HBL0.out.trans ((za wa (.cells (L.map (Value.int .i64)).toArray 3)).mono HBL0.out.size))
 have HL7:=hD (Box.new wa 3 (L.map (Value.int .i64)).toArray)
 go_upto_region 25 with(go_at_call 17;refine(HOPS.out _).mono ?_;rintro e w7 hN;obtain⟨rfl,rfl⟩:=zj8 hop hN;clear hN)
 obtain⟨w7,hw7⟩:∃ w7,wa.alloc (.cells (L.map (Value.int .i64)).toArray 3)=w7:=⟨_,rfl⟩
 rw [hw7] at HB7 HD7 HL7 ⊢
 rw [hgl] at HL7
 try rw [hgl]
 clear hw7 hgl e0 HOPS HBA HBL0 hop
 go_wp2
 go_loopw [13,14] (fun kk mm wr=>∃ (m:Nat) (l:List Int),m≤L.length∧kk=.int .i64 m∧Hid (Args k n (r:Int) m l)∧Hid (Box wr g11 54 (argCells r l))∧Hid (Box wr gl 3 (L.map (Value.int .i64)).toArray)∧Hid (Below wo.heap.size wo wr)) (fun kk _ _=>L.length - (intOf kk).toNat)
 case atStart=>exact⟨0,_,by omega,rfl,HA0,HB7,HL7,HD7⟩
 obtain⟨m,l,hm,rfl,HAR,HBX,HLX,HBL⟩:=hrel
 clear HB7 HL7 HD7 HA0
 by_cases hml:m<L.length
 case neg=>
  obtain rfl:m=L.length:=by omega
  have HIE:=hD (HDONE.out l HAR.out)
  have HFM:=hD (HF.out.up HBL.out)
  obtain⟨gc,cc',hvc⟩:=zz8 HFM.out.rc (by rw [HLC.out];exact Nat.lt_of_le_of_lt (Nat.zero_le _) hjn)
  rw [HLC.out] at hvc
  injection hvc with hv1 hv2 hv3
  subst hv1 hv3
  have hfm:=HFM.out
  have hjl:j<lc.length:=by rw [HLC.out];exact hjn
  have HLE:=hD (show(Value.slice (some ⟨gc,0,none⟩) n cc)=.slice (some ⟨gc,0,none⟩) lc.length cc by rw [HLC.out])
  rw [HLE.out] at hfm
  obtain⟨y0,y1,y2,y3,y4,t0,t1,t2,t3,t4,f0,f1,f2,f3,f4⟩:=hfm.row j hjl
  have hset:=hfm.setc j hjl ((r:Int),l.getD 0 0,l.getD 1 0,l.getD 2 0,l.getD 3 0)
  rw [← HLE.out] at hset
  have HSET:=hD hset
  have HLC2:Hid ((lc.set j ((r:Int),l.getD 0 0,l.getD 1 0,l.getD 2 0,l.getD 3 0)).length=n):=hD (by rw [List.length_set];exact HLC.out)
  have HOK2:=hD (ok_step hjl HOKS.out HIE.out)
  have x0:wr.cell? ⟨g11,0,none⟩=some (.int .i64 (r:Int)):=HBX.out.cell 0
  have x1:wr.cell? ⟨g11,1,none⟩=some (.int .i64 (l.getD 0 0)):=HBX.out.cell 1
  have x2:wr.cell? ⟨g11,2,none⟩=some (.int .i64 (l.getD 1 0)):=HBX.out.cell 2
  have x3:wr.cell? ⟨g11,3,none⟩=some (.int .i64 (l.getD 2 0)):=HBX.out.cell 3
  have x4:wr.cell? ⟨g11,4,none⟩=some (.int .i64 (l.getD 3 0)):=HBX.out.cell 4
  have p3:wr.cell? ⟨g4,3,none⟩=some (.slice (some ⟨gc,0,none⟩) n cc):=HFM.out.b4.cell 3
  have j1:(j:Int)<(n:Int):=by omega
  generalize l.getD 0 0=l0 at x1 HSET HLC2 HOK2
  generalize l.getD 1 0=l1 at x2 HSET HLC2 HOK2
  generalize l.getD 2 0=l2 at x3 HSET HLC2 HOK2
  generalize l.getD 3 0=l3 at x4 HSET HLC2 HOK2
  clear hset hfm hjl
  go_wp2
  go_roundw
  case rel=>first | exact⟨j+1,_,by omega,by go_num,HLC2,HOK2,HSET⟩ | exact⟨_,_,_,_,_,_,_,_,_,_,_,_,_,_,_,_,_,_,_,_,_,_,_,_,_,_,_,_,_,_,_,_,_,_,_,_,_,_,_,_,_,_,_,_,_,_,_,_,_,_,_,_,_,_,_,_,_,_,_,_,_,_,_,_,_,_,_,_,_,_,_,_,_,_,_,_,_,_,_,_,_,_,_,_,_,_,_,⟨j+1,_,by omega,by go_num,HLC2,HOK2,HSET⟩,rfl⟩
  case measure=>simp [intOf];omega
 case pos=>
 have HFM:=hD (HF.out.up HBL.out)
 obtain⟨q,hq⟩:=Int.eq_ofNat_of_zero_le (show 0≤L.getD m 0 from Int.le_trans (by decide) (HKIND.out m hml).1)
 have hq1:1≤q∧q≤9:=by have:=HKIND.out m hml;omega
 have hm4:m<4:=Nat.lt_of_lt_of_le hml HFEW.out
 have s1:wr.cell? ⟨g4,2,none⟩=some (.slice Ap k cp):=HFM.out.b4.cell 2
 have s2:wr.cell? ⟨gl,m,none⟩=some (.int .i64 (q:Int)):=by rw [HLX.out.cell m,← hq];simp [hml]
 have HQ:=hD hq
 have hmc:(wr.alloc (.cells (mostCells k n) 3)).cell? ⟨wr.heap.size,q,none⟩=some (.int .i64 (mostOf k n (q:Int):Nat)):=by rw [(Box.new wr _ _).cell q];exact most_at k n q hq1.1 hq1.2
 have HM0:Hid (mostOf k n (q:Int)=0→k=0):=hD (fun h=>most_zero hq1.1 hq1.2 (by omega) h)
 have HMB:Hid (mostOf k n (q:Int)≤32):=hD (most_le hk4 hn30)
 have HGS:Hid (q≠5→∀ x:Nat,x<mostOf k n (q:Int)→goodB k n (r:Int) (q:Int) x):=hD (fun h x hx=>zw19 hk4 hn30 (by omega) (by omega) (by omega) hx)
 have HGF:Hid (q=5→∀ x:Nat,x<mostOf k n (q:Int)→goodB k n (r:Int) (q:Int) (x+1)):=hD (fun h x hx=>by subst h;exact good_five hx)
 generalize mostOf k n (q:Int)=M at hmc HM0 HMB HGS HGF
 have HBM:=hD (fun w=>za21 k n w)
 have i1:(m:Int)<(L.length:Int):=by omega
 have i2:(0:Int)≤(m:Int):=by omega
 have i3:(q:Int)<10:=by omega
 have i4:(0:Int)≤(q:Int):=by omega
 have i5:q<10:=by omega
 clear hq
 go_upto_region 28 with(fail)
 refine wp_region_held_drew (S:=(fun W=>W.cell? ⟨g4,2,none⟩=some (.slice Ap k cp)∧W.cell? ⟨gl,m,none⟩=some (.int .i64 (q:Int)))) (by kernel_rfl) ?_ (fun hHeld=>?_)
 ·exact⟨s1,s2⟩
 have st:StH [0,1,2,3,5,6,7,8]:=trivial
 iterate 8
  refine tHL st (v:=?_) rfl ?_ ?_
  rotate_left 1
  ·(intro w' hSw;(try dsimp only at hSw);go_simp;try with_reducible rfl)
  replace st:=st.tl
  try simp only [qA,qB,qC,Act.put,qD,qE,qF]
 refine wH1 (i:=4) (by kernel_rfl) rfl fun K hK=>?_
 refine zi1 (HBM.out _) rfl _ rfl (by kernel_rfl) ?_
 refine hK.out _ _ ?_ (fun hHeld=>?_)
 ·((try dsimp only);first | with_reducible assumption | go_keep)
 clear hK K
 try simp only [qA,qB,qC,Act.put,qD,qE,qF]
 refine tHH (i:=9) (v:=?_) rfl ?_ ?_
 rotate_left 1
 ·(intro w' hSw;(try dsimp only at hSw);go_simp;try with_reducible rfl)
 try simp only [qA,qB,qC,Act.put,qD,qE,qF]
 refine wH1 (i:=10) (by kernel_rfl) rfl fun K hK=>?_
 go_simp
 refine hK.out _ _ ?_ (fun hHeld=>?_)
 ·((try dsimp only);first | with_reducible assumption | go_keep)
 clear hK K
 try simp only [qA,qB,qC,Act.put,qD,qE,qF]
 refine tHH (i:=11) (v:=?_) rfl ?_ ?_
 rotate_left 1
 ·(intro w' hSw;(try dsimp only at hSw);go_simp;try with_reducible rfl)
 try simp only [qA,qB,qC,Act.put,qD,qE,qF]
 refine wpAnyH_done (by kernel_rfl) ?_ _
 have HB8:Hid (Below wr.heap.size wr ((wr.alloc (.cells (mostCells k n) 3)).drew)):=hD ((za wr _).trans ((bdrew1 _).mono (by simp)))
 obtain⟨W8,hW8⟩:∃ W8,(wr.alloc (.cells (mostCells k n) 3)).drew=W8:=⟨_,rfl⟩
 rw [hW8] at HB8 ⊢
 have HBX8:=hD (HBX.out.below HB8.out HBX.out.lt)
 have HLX8:=hD (HLX.out.below HB8.out HLX.out.lt)
 have HBL8:=hD (HBL.out.trans (HB8.out.mono HBL.out.size))
 have HF8:=hD (HFM.out.up HB8.out)
 clear hW8 hmc s1 s2 hHeld HBM HBX HLX HBL HFM HB8
 by_cases hM:M=0
 case pos=>
  subst hM
  have hpe:=HNP.out (HM0.out rfl)
  have HPL:Hid (o.preds.length=0):=hD (by rw [hpe];rfl)
  have HRE:=hD (HREC.out hpe)
  have HNI:=hD (HNIL.out hpe)
  clear hpe HM0 HMB HGS HGF
  have HFD:=hD (HF8.out.up (bdrew1 W8))
  have HSF:=hD (fun(W:World) (h:Fx w W g3 g4 ga gf #[.slice A1 o.atoms.length c1,.slice A2 o.funs.length c2,.slice A3 o.preds.length c3,.slice (some ⟨b,off,none⟩) o.code.length c4] (.slice Ap k cp) (.slice Ac n cc) lp lc)=>And.intro (h.b1.cell 2:W.cell? ⟨w.heap.size,2,none⟩=some (.slice A3 o.preds.length c3)) (h.b1.cell 3:W.cell? ⟨w.heap.size,3,none⟩=some (.slice (some ⟨b,off,none⟩) o.code.length c4)))
  have HBZ:=hD (fun w=>zm2 ⟨#[]⟩ 0 0 w)
  have hpv:CellsAt (W8.drew.alloc (.cells #[.string ⟨#[]⟩,.int .i64 0,.int .i64 0] 63)) (.slice A3 o.preds.length c3) 0 []:=.inl ⟨rfl,rfl,A3,c3,by rw [HPL.out]⟩
  obtain⟨v9,w9,hr9,HA9⟩:=zz15 zo13 (zk8 W8.drew) hpv rfl (by intro u hu;cases hu) (by omega) (by simp) (fun k c h=>by injection h with h1 h2 h3;subst h1 h3;exact HNI.out o.preds.length c3 rfl) 24
  obtain⟨A9,c9,hv9⟩:=HA9.out.form
  subst hv9
  have HR9:=hD hr9
  have HB9:Hid (Below W8.drew.heap.size W8.drew w9):=hD ((za W8.drew _).trans (HA9.out.below (zk8 W8.drew) (by simp)))
  have HF9:=hD (HFD.out.up HB9.out)
  have HO9:Hid (ObAt w9 (.slice none 0 0) (.slice none 0 0) (.slice A9 (1+0) c9) (.slice (some ⟨b,off,none⟩) o.code.length c4) ⟨[],[],[(⟨#[]⟩,0,0)],o.code⟩):=hD ⟨.inl ⟨rfl,rfl,_,_,rfl⟩,.inl ⟨rfl,rfl,_,_,rfl⟩,CellsAt.of_own (by have:=HA9.out.own;simpa [predC] using this) (by decide),CellsAt.below HV.out.code HF9.out.below⟩
  clear hr9 hpv
  go_upto_region 30 with(fail)
  refine wp_region_held_drew (S:=(fun W=>W.cell? ⟨w.heap.size,2,none⟩=some (.slice A3 o.preds.length c3)∧W.cell? ⟨w.heap.size,3,none⟩=some (.slice (some ⟨b,off,none⟩) o.code.length c4))) (by kernel_rfl) ?_ (fun hHeld=>?_)
  ·exact HSF.out _ HFD.out
  refine wpAnyH_take (i:=0) (v:=.agg #[.string ⟨#[]⟩,.int .i64 0,.int .i64 0]) rfl (by kernel_rfl) (by kernel_rfl) (by kernel_rfl) (fun _ _ _ h=>h) (Or.inl ⟨by rfl,fun w' hSw=>by kernel_rfl⟩) (by assumption) ?_
  try simp only [qA,qB,qC,Act.put,qD,qE,qF]
  have st:StH [2,3,5,6]:=trivial
  iterate 4
   refine tHL st (v:=?_) rfl ?_ ?_
   rotate_left 1
   ·(intro w' hSw;(try dsimp only at hSw);go_simp;try with_reducible rfl)
   replace st:=st.tl
   try simp only [qA,qB,qC,Act.put,qD,qE,qF]
  refine wH1 (i:=1) (by kernel_rfl) rfl fun K hK=>?_
  refine zi1 (HBZ.out _) rfl _ rfl (by kernel_rfl) ?_
  refine hK.out _ _ ?_ (fun hHeld=>?_)
  ·exact HSF.out _ (HFD.out.up (za _ _))
  clear hK K
  try simp only [qA,qB,qC,Act.put,qD,qE,qF]
  refine wH1 (i:=4) (by kernel_rfl) rfl fun K hK=>?_
  refine zi HR9.out rfl _ _ rfl rfl rfl ?_
  refine hK.out _ _ ?_ (fun hHeld=>?_)
  ·exact HSF.out _ HF9.out
  clear hK K
  try simp only [qA,qB,qC,Act.put,qD,qE,qF]
  refine wpAnyH_take (i:=7) (v:=.agg #[.slice none 0 0,.slice none 0 0,.slice A9 (1+0) c9,.slice (some ⟨b,off,none⟩) o.code.length c4]) rfl (by kernel_rfl) (by kernel_rfl) (by kernel_rfl) (fun _ _ _ h=>h) (Or.inl ⟨by rfl,fun w' hSw=>by kernel_rfl⟩) (by assumption) ?_
  try simp only [qA,qB,qC,Act.put,qD,qE,qF]
  refine wH1 (i:=8) (by kernel_rfl) rfl fun K hK=>?_
  go_simp
  go_at_call 9;refine(HRE.out _ _ _ _ _ _ HO9.out (by simp)).mono ?_;rintro e w10 ⟨o10,ua,uf,up,uc,rfl,hat10,hck10,hn10,hb10,hw10⟩;have HOW:=hD hw10;clear hw10;obtain⟨E1,f1,rfl⟩:=CellsAt.form (hat10 w10 (Fr.refl _ _)).atoms;obtain⟨E2,f2,rfl⟩:=CellsAt.form (hat10 w10 (Fr.refl _ _)).funs;obtain⟨E3,f3,rfl⟩:=CellsAt.form (hat10 w10 (Fr.refl _ _)).preds;obtain⟨E4,f4,rfl⟩:=CellsAt.form (hat10 w10 (Fr.refl _ _)).code;have HAT:=hD hat10;have HCK:=hD hck10;have HN10:=hD hn10;have HF10:=hD (HF9.out.up hb10);have b0:=HF10.out.b2.cell 0;have b1:=HF10.out.b2.cell 1;have b2:=HF10.out.b2.cell 2;have b3:=HF10.out.b2.cell 3;have z0:=HF10.out.b2.frozen 0;have z1:=HF10.out.b2.frozen 1;have z2:=HF10.out.b2.frozen 2;have z3:=HF10.out.b2.frozen 3;clear hat10 hck10 hn10 hb10
  refine hK.out _ _ ?_ (fun hHeld=>?_)
  ·exact HSF.out _ HF10.out
  clear hK K
  try simp only [qA,qB,qC,Act.put,qD,qE,qF]
  refine wH1 (i:=9) (by kernel_rfl) rfl fun K hK=>?_
  go_simp
  refine hK.out _ _ ?_ (fun hHeld=>?_)
  ·((try dsimp only);first | with_reducible assumption | go_keep)
  clear hK K
  try simp only [qA,qB,qC,Act.put,qD,qE,qF]
  refine wpAnyH_done (by kernel_rfl) ?_ _
  go_wp2_with fail
  refine zy8 HF10.out.b2 (by intro W c0 c1 c2 c3;simp [results,Tryz.results9,go_sem,c0,c1,c2,c3]) ?_
  intro W hW hFr
  refine⟨o10,_,_,_,_,rfl,fun W' hf'=>HAT.out W' (fr_two HF9.out.b2.lt HF9.out.below.size hFr hf'),HCK.out,HN10.out,HF10.out.below.trans (hFr.below HF10.out.below.size (fun k hk=>by omega)),zt19 HOW.out HF9.out.b2.lt hFr⟩
 case neg=>
 obtain⟨hMp,hMz,hMb⟩:=ne_zero8 hM
 obtain⟨x,u,hu,hux,hxM,hw1,hw2,hw3⟩:=mod_nat (il.getD m 0) M hMp (Nat.le_trans HMB.out (by decide))
 obtain⟨hM1,hM2,hM3,_⟩:=zp15 HMB.out
 obtain⟨hx1,hx2,hx3,hx4⟩:=zp15 (x:=x) (Nat.le_trans (Nat.le_of_lt hxM) HMB.out)
 have a1:W8.cell? ⟨b,off+j * 5+1+m,none⟩=some (.int .i64 (il.getD m 0)):=HIN.out W8 HF8.out.below m hm4
 have HA1:Hid (∀ W,Below w.heap.size w W→W.cell? ⟨b,off+j * 5+1+m,none⟩=some (.int .i64 (il.getD m 0))):=hD (fun W h=>HIN.out W h m hm4)
 generalize il.getD m 0=av at hu a1 HA1
 have a2:W8.cell? ⟨g11,1+m,none⟩=some (.int .i64 (l.getD m 0)):=arg_at HBX8.out hm4
 have a3:W8.frozen? ⟨g11,1+m,none⟩=false:=HBX8.out.frozen (1+m)
 have a5:W8.cell? ⟨w.heap.size,3,none⟩=some (.slice (some ⟨b,off,none⟩) o.code.length c4):=HF8.out.b1.cell 3
 have i6:(m:Int)<4:=by omega
 have HBX9:=hD (zb16 HBX8.out hm4 HAR.out.len (x:Int))
 have HLX9:=hD (HLX8.out.far (p:=⟨g11,1+m,none⟩) (HLX8.out.ne_ HBX8.out (by decide)) (.int .i64 (x:Int)))
 have HBL9:=hD (HBL8.out.setCell (p:=⟨g11,1+m,none⟩) (by rw [HG11.out];exact Nat.le_refl _) (.int .i64 (x:Int)))
 clear hMp HM0 HMB
 go_upto_region 32 with(fail)
 obtain⟨W9,hW9⟩:∃ W9,W8.setCell ⟨g11,1+m,none⟩ (.int .i64 (x:Int))=W9:=⟨_,rfl⟩
 rw [hW9] at HBX9 HLX9 HBL9 ⊢
 clear hW9 hM a1 a2 a3 a5 HBX8 HLX8 HBL8 HF8 hu hux hw1 hw2 hw3 hM1 hM2 hM3 hMz hMb
 have HF9:=hD (HF.out.up HBL9.out)
 have hlen2:=(show(l.set m (x:Int)).length=4 by rw [List.length_set];exact HAR.out.len)
 have HLE2:=hD hlen2
 have d1:=HA1.out W9 HF9.out.below
 have d2:W9.cell? ⟨g11,1+m,none⟩=some (.int .i64 (x:Int)):=by
  rw [arg_at HBX9.out hm4,zx12 (by rw [HAR.out.len];exact hm4),if_pos rfl]
 have d3:W9.frozen? ⟨g11,1+m,none⟩=false:=HBX9.out.frozen (1+m)
 have d4:W9.cell? ⟨g11,0,none⟩=some (.int .i64 (r:Int)):=HBX9.out.cell 0
 have d5:W9.cell? ⟨w.heap.size,3,none⟩=some (.slice (some ⟨b,off,none⟩) o.code.length c4):=HF9.out.b1.cell 3
 have d6:W9.cell? ⟨gl,m,none⟩=some (.int .i64 (q:Int)):=by rw [HLX9.out.cell m,← HQ.out];simp [hml]
 clear hlen2
 by_cases h5:q=5
 case pos=>
  subst h5
  have h26:((r:Int) == 26)=false:=by
   have:=za11 (op:=(r:Int)) (k:=m) (by rw [HLL.out,HQ.out];rfl) (by rw [HLL.out];exact hml)
   simpa using this
  have HAR2:=hD (HAR.out.put hm4 (x:=(x:Int)+1) (by rw [HLL.out,HQ.out];exact HGF.out rfl x hxM))
  have HBX10:Hid (Box (W9.setCell ⟨g11,1+m,none⟩ (.int .i64 ((x:Int)+1))) g11 54 (argCells r (l.set m ((x:Int)+1)))):=hD (by have:=zb16 HBX9.out hm4 HLE2.out ((x:Int)+1);rwa [zo15] at this)
  have HLX10:=hD (HLX9.out.far (p:=⟨g11,1+m,none⟩) (HLX9.out.ne_ HBX9.out (by decide)) (.int .i64 ((x:Int)+1)))
  have HBL10:=hD (HBL9.out.setCell (p:=⟨g11,1+m,none⟩) (by rw [HG11.out];exact Nat.le_refl _) (.int .i64 ((x:Int)+1)))
  have e4:(W9.setCell ⟨g11,1+m,none⟩ (.int .i64 ((x:Int)+1))).cell? ⟨g11,0,none⟩=some (.int .i64 (r:Int)):=HBX10.out.cell 0
  clear HGS HGF hxM hx1 hx2 hx3
  go_wp2
  go_roundw
  case rel=>first | exact⟨m+1,_,by omega,by go_num,HAR2,HBX10,HLX10,HBL10⟩ | exact⟨_,_,_,_,_,_,_,_,_,_,_,_,_,_,_,_,_,_,_,_,_,_,_,_,_,_,_,_,_,_,_,_,_,_,_,_,_,_,_,_,_,_,_,_,_,_,_,_,_,_,_,_,_,_,_,_,_,_,_,_,_,_,_,_,_,_,_,_,_,_,_,_,⟨m+1,_,by omega,by go_num,HAR2,HBX10,HLX10,HBL10⟩,rfl⟩
  case measure=>simp [intOf];omega
 case neg=>
 have h5b:((q:Int) == 5)=false:=by
  have:¬ (q:Int)=5:=by omega
  simpa using this
 have HGQ:=hD (HGS.out h5 x hxM)
 clear HGS HGF hxM h5
 by_cases h26:(r:Int)=26
 case neg=>
  have h26b:((r:Int) == 26)=false:=by simpa using h26
  have HAR2:=hD (HAR.out.put hm4 (x:=(x:Int)) (by rw [HLL.out,HQ.out];exact HGQ.out))
  clear h26 hx1 hx2 hx3 hx4
  go_wp2
  go_roundw
  case rel=>first | exact⟨m+1,_,by omega,by go_num,HAR2,HBX9,HLX9,HBL9⟩ | exact⟨_,_,_,_,_,_,_,_,_,_,_,_,_,_,_,_,_,_,_,_,_,_,_,_,_,_,_,_,_,_,_,_,_,_,_,_,_,_,_,_,_,_,_,_,_,_,_,_,_,_,_,_,_,_,_,_,_,_,_,_,_,_,_,_,_,_,_,_,_,_,_,_,⟨m+1,_,by omega,by go_num,HAR2,HBX9,HLX9,HBL9⟩,rfl⟩
  case measure=>simp [intOf];omega
 case pos=>
 have h26b:((r:Int) == 26)=true:=by simpa using h26
 by_cases hav:av<0
 case neg=>
  have HAR2:=hD (HAR.out.put hm4 (x:=(x:Int)) (by rw [HLL.out,HQ.out];exact HGQ.out))
  clear h26 hx1 hx2 hx3 hx4
  go_wp2
  go_roundw
  case rel=>first | exact⟨m+1,_,by omega,by go_num,HAR2,HBX9,HLX9,HBL9⟩ | exact⟨_,_,_,_,_,_,_,_,_,_,_,_,_,_,_,_,_,_,_,_,_,_,_,_,_,_,_,_,_,_,_,_,_,_,_,_,_,_,_,_,_,_,_,_,_,_,_,_,_,_,_,_,_,_,_,_,_,_,_,_,_,_,_,_,_,_,_,_,_,_,_,_,⟨m+1,_,by omega,by go_num,HAR2,HBX9,HLX9,HBL9⟩,rfl⟩
  case measure=>simp [intOf];omega
 case pos=>
  have HAR2:=hD (HAR.out.put hm4 (x:=65535) (by rw [zx11 h26 (by rw [HLL.out];exact hml),h26];exact good_none))
  have HBX10:Hid (Box (W9.setCell ⟨g11,1+m,none⟩ (.int .i64 65535)) g11 54 (argCells r (l.set m 65535))):=hD (by have:=zb16 HBX9.out hm4 HLE2.out 65535;rwa [zo15] at this)
  have HLX10:=hD (HLX9.out.far (p:=⟨g11,1+m,none⟩) (HLX9.out.ne_ HBX9.out (by decide)) (.int .i64 65535))
  have HBL10:=hD (HBL9.out.setCell (p:=⟨g11,1+m,none⟩) (by rw [HG11.out];exact Nat.le_refl _) (.int .i64 65535))
  clear h26 hx1 hx2 hx3 hx4
  go_wp2
  go_roundw
  case rel=>first | exact⟨m+1,_,by omega,by go_num,HAR2,HBX10,HLX10,HBL10⟩ | exact⟨_,_,_,_,_,_,_,_,_,_,_,_,_,_,_,_,_,_,_,_,_,_,_,_,_,_,_,_,_,_,_,_,_,_,_,_,_,_,_,_,_,_,_,_,_,_,_,_,_,_,_,_,_,_,_,_,_,_,_,_,_,_,_,_,_,_,_,_,_,_,_,_,⟨m+1,_,by omega,by go_num,HAR2,HBX10,HLX10,HBL10⟩,rfl⟩
  case measure=>simp [intOf];omega
theorem fix_some (o:Ob) (va vf vp vc:Value) (w:World) (hv:ObAt w va vf vp vc o) (hne:o.preds≠[]):Calls Tryz.prog 9 #[.agg #[va,vf,vp,vc]] w (FixPost w):=
 zz17 o va vf vp vc w hv (fun h=>absurd h hne) (fun h=>absurd h hne)
theorem fix8_any (o:Ob) (va vf vp vc:Value) (w:World) (hv:ObAt w va vf vp vc o) (hnp:∀ k c,vp=.slice none k c→c=0):Calls Tryz.prog 9 #[.agg #[va,vf,vp,vc]] w (FixPost w):=
 zz17 o va vf vp vc w hv (fun _=>hnp) (fun _ o2 ya yf yp yc W h hne=>fix_some o2 ya yf yp yc W h hne)
end Go.Proofs.YtlmbiafloiompaaGreatDoor
