/-
  3 texts in one (AsmO AsmQ AsmR). Conditions: those of each theorem.
-/
import Derived.Test.YtlmbiafloiompaaGreatDoorJO43
set_option linter.unusedVariables false
set_option linter.unusedSimpArgs false
namespace Go.Proofs.YtlmbiafloiompaaGreatDoor
open Go Go.RowKit Go.WideShapes Go.ChangeShapes
theorem zc18:∀ (l:List (ByteArray × Int × Int)) (i:Nat) (hi:i<l.length),(l.flatMap predC)[i * 3+2]?=some (.int .i64 l[i].2.2)
 | [],i,hi=>by simp at hi
 | a :: l,0,hi=>rfl
 | a :: l,i+1,hi=>by
  have ih:=zc18 l i (by simpa using hi)
  rw [List.flatMap_cons,List.getElem_cons_succ,← ih,show(i+1) * 3+2=(predC a).length+(i * 3+2) by simp [predC];omega]
  rw [List.getElem?_append_right (by omega),Nat.add_sub_cancel_left]
theorem zd8:∀ (l:List (ByteArray × Int × Int)) (i:Nat) (x:Int) (hi:i<l.length),(l.flatMap predC).set (i * 3+2) (.int .i64 x)=(l.set i (l[i].1,l[i].2.1,x)).flatMap predC
 | [],i,x,hi=>by simp at hi
 | a :: l,0,x,hi=>rfl
 | a :: l,i+1,x,hi=>by
  have ih:=zd8 l i x (by simpa using hi)
  rw [List.set_cons_succ,List.flatMap_cons,List.flatMap_cons,List.getElem_cons_succ,← ih,show(i+1) * 3+2=(i * 3+2)+3 by omega]
  simp [predC]
def entAt (s:St) (i:Nat) (f:ByteArray × Int) (x:Int):St:={ s with ob:={ s.ob with preds:=s.ob.preds.set i (f.1,f.2,x) } }
theorem Mk.pred_cell {w0 w:World} {g M gp cp:Nat} {va vf vc vq:Value} {s:St} (h:Mk w0 w g M va vf (.slice (some ⟨gp,0,none⟩) s.ob.preds.length cp) vc vq s) (i:Nat) (hi:i<s.ob.preds.length) :
  w.cell? ⟨gp,i * 3+2,none⟩=some (.int .i64 s.ob.preds[i].2.2)∧w.frozen? ⟨gp,i * 3+2,none⟩=false:=by
 have hc:=h.rp.cells (g:=gp) rfl (i * 3+2) _ (zc18 s.ob.preds i hi)
 rw [add_plain,Nat.zero_add] at hc
 refine⟨hc,?_⟩
 rcases h.rp.2 with⟨h0,_⟩ | ⟨g',cap,cur,h1,_,hh,_⟩
 ·simp at h0
 ·injection h1 with h1 _ _
  injection h1 with h1
  injection h1 with h1
  subst h1
  exact frozen_of_row w gp (i * 3+2) cur _ hh
theorem Mk.pred_set {w0 w:World} {g M gp cp:Nat} {va vf vc vq:Value} {s:St} (h:Mk w0 w g M va vf (.slice (some ⟨gp,0,none⟩) s.ob.preds.length cp) vc vq s) (i:Nat) (hi:i<s.ob.preds.length) (x:Int) :
  Mk w0 (w.setCell ⟨gp,i * 3+2,none⟩ (.int .i64 x)) g M va vf (.slice (some ⟨gp,0,none⟩) s.ob.preds.length cp) vc vq (entAt s i (s.ob.preds[i].1,s.ob.preds[i].2.1) x):=by
 have hgp:=(own_ge h.rp (b:=gp) rfl).1
 refine⟨h.box.far (p:=⟨gp,i * 3+2,none⟩) (fun e=>zb h.rp h.box (by decide) gp rfl e.symm) _,zd h.ra (p:=⟨gp,i * 3+2,none⟩) (fun k hk e=>zc h.ra h.rp (by decide) k hk (by rw [e];rfl)) _,
  zd h.rf (p:=⟨gp,i * 3+2,none⟩) (fun k hk e=>zc h.rf h.rp (by decide) k hk (by rw [e];rfl)) _,?_,zd h.rc (p:=⟨gp,i * 3+2,none⟩) (fun k hk e=>zc h.rc h.rp (by decide) k hk (by rw [e];rfl)) _,
  zd h.rq (p:=⟨gp,i * 3+2,none⟩) (fun k hk e=>zc h.rq h.rp (by decide) k hk (by rw [e];rfl)) _,
  h.rm.fr (S:=fun k=>k=gp) ((Fr.refl (fun k=>k=gp) w).setCell (p:=⟨gp,i * 3+2,none⟩) (.inl rfl) _) (fun e=>h.rm.ne_own h.rp gp rfl e.symm),h.below.setCell (p:=⟨gp,i * 3+2,none⟩) hgp _,h.lt⟩
 show World.ownsRow _ _ _ _ _ (s.ob.preds.set i _).length ((s.ob.preds.set i _).flatMap predC)
 rw [List.length_set,← zd8 s.ob.preds i x hi]
 exact(World.ownsRow.stored h.rp _ _).1
theorem zw8 {w:World} {base:Nat} {e:TypeId} {size n:Nat} {v:Value} {xs:List Value} (h:w.ownsRow base e size v n xs) (hn:0<n):∃ gp cp,v=.slice (some ⟨gp,0,none⟩) n cp:=by
 rcases h.2 with⟨_,rfl⟩ | ⟨g,cap,cur,rfl,_⟩
 ·omega
 ·exact⟨_,_,rfl⟩
theorem zt5:∀ (x:ByteArray) (n:Int) (k:Nat) (l:List (ByteArray × Int × Int)),0≤findFrom x n k l→∃ i,∃ h:i<l.length,findFrom x n k l=(k:Int)+(i:Int)∧l[i].1=x∧l[i].2.1=n
 | x,n,k,[],h=>by simp [findFrom] at h
 | x,n,k,p :: l,h=>by
  unfold findFrom at h ⊢
  split
  ·rename_i hc
   exact⟨0,by simp,by simp,by simpa using hc⟩
  ·rename_i hc
   rw [if_neg hc] at h
   obtain⟨i,hi,h1,h2⟩:=zt5 x n (k+1) l h
   exact⟨i+1,by simpa using hi,by rw [h1];push_cast;omega,by simpa using h2⟩
theorem ze10 (o:Ob) (f:ByteArray × Int):∃ i,∃ h:i<(predStep o f).2.preds.length,(predStep o f).1=(i:Int)∧(predStep o f).2.preds[i].1=f.1∧(predStep o f).2.preds[i].2.1=f.2:=by
 unfold predStep
 split
 ·exact⟨o.preds.length,by simp,rfl,by simp,by simp⟩
 ·rename_i h
  obtain⟨i,hi,h1,h2⟩:=zt5 f.1 f.2 0 o.preds (by omega)
  exact⟨i,hi,by rw [h1];omega,h2⟩
theorem zx1 (o:Ob) (f:ByteArray × Int):(predStep o f).2.code=o.code:=by
 unfold predStep
 split <;> rfl
theorem zy16 {l:List UInt8} {n:Int} {s:St} (h:Lib.hasPrefix l predWord=true):lineStep n l s=predLine n (Lib.trimPrefix l predWord) s:=by
 have h2:predWord.isPrefixOf l=true:=h
 have h3:Lib.trimPrefix l predWord=l.drop 5:=by
  unfold Lib.trimPrefix
  rw [if_pos h]
  rfl
 unfold lineStep
 rw [if_pos h2,h3]
theorem zd20 {l:List UInt8} {n:Int} {s:St} (h:Lib.hasPrefix l predWord=false) (h2:Lib.hasPrefix l [64]=true):lineStep n l s=labLine l s:=by
 have h3:¬ predWord.isPrefixOf l=true:=by
  have:predWord.isPrefixOf l=false:=h
  simp [this]
 unfold lineStep
 rw [if_neg h3]
 cases l with
 | nil=>simp [Lib.hasPrefix] at h2
 | cons c d=>
  have hc:c=64:=by
   simp [Lib.hasPrefix] at h2
   exact h2.symm
  subst hc
  rfl
theorem za20 {l:List UInt8} {n:Int} {s:St} (h:Lib.hasPrefix l predWord=false) (h2:Lib.hasPrefix l [64]=false):lineStep n l s=instrLine n l s:=by
 have h3:¬ predWord.isPrefixOf l=true:=by
  have:predWord.isPrefixOf l=false:=h
  simp [this]
 unfold lineStep
 rw [if_neg h3]
 split
 ·simp [Lib.hasPrefix] at h2
 ·rfl
def PredKeeps:Prop:=∀ (w0:World) (g M:Nat) (va vf vp vc vq:Value) (s:St) (n:Int) (x:ByteArray),x.size≤1048576→(s.ob.atoms.length≤900000∧s.ob.funs.length≤900000∧s.ob.preds.length≤900000∧s.ob.code.length≤900000∧s.pts.length≤900000)→∀ (B:Nat),LaidC B w0→∀ (w:World),Mk w0 w g M va vf vp vc vq s →
 Calls Tryz.prog 37 #[.pointer (some ⟨g,0,none⟩),.int .i64 n,.string x] w (LineW w0 g M (predLine n x.data.toList s))
set_option maxRecDepth 100000 in
set_option maxHeartbeats 8000000 in
theorem take_any (HPK:PredKeeps) (w0:World) (g M:Nat) (va vf vp vc vq:Value) (s:St) (n:Int) (x:ByteArray) (hx:x.size≤1048576) (hl:s.ob.atoms.length≤900000∧s.ob.funs.length≤900000∧s.ob.preds.length≤900000∧s.ob.code.length≤900000∧s.pts.length≤900000) (hla:s.labs.length≤1000000) {B:Nat} (hp:LaidC B w0) (w:World) (hk:Mk w0 w g M va vf vp vc vq s) :
  Calls Tryz.prog 19 #[.pointer (some ⟨g,0,none⟩),.int .i64 n,.string x] w (LineW w0 g M (lineStep n x.data.toList s)):=by
 have HK:=hD hk
 have HC:=hD (fun w=>Tryz.strings_CutPrefix x ⟨#[112,114,101,100,32]⟩ w)
 have HH:=hD (fun w=>Tryz.strings_HasPrefix x ⟨#[64]⟩ w)
 have HX:=hD hx
 have HL:=hD hl
 have HLA:=hD hla
 have HP:=hD hp
 obtain⟨r,hr⟩:∃ r,lineStep n x.data.toList s=r:=⟨_,rfl⟩
 rw [hr]
 cases h:Lib.hasPrefix x.data.toList predWord with
 | true=>
  have h':Lib.hasPrefix x.data.toList (⟨#[112,114,101,100,32]⟩:ByteArray).data.toList=true:=h
  rw [h'] at HC
  have ht:(bs (Lib.trimPrefix x.data.toList predWord)).size≤1048576:=by
   rw [zb4]
   unfold Lib.trimPrefix
   have:x.data.toList.length=x.size:=by rw [Array.length_toList];rfl
   rw [if_pos h,List.length_drop]
   omega
  have HT:=hD (fun W h=>HPK w0 g M va vf vp vc vq s n (bs (Lib.trimPrefix x.data.toList predWord)) ht hl B hp W h)
  rw [za4,← zy16 h] at HT
  have HC2:Hid (∀ w:World,Calls Tryz.prog 36 #[.string x,.string ⟨#[112,114,101,100,32]⟩] w fun e w'=>e=.returned (.tuple #[.string (bs (Lib.trimPrefix x.data.toList predWord)),.bool true])∧w'=w):=HC
  rw [hr] at HT
  clear HC h h' hr hk HH ht hx hl hla hp
  generalize bs (Lib.trimPrefix x.data.toList predWord)=t at HT HC2
  cases r with
  | error c=>
   unfold LineW at HT
   simp only at HT
   go_enter Tryz.func19,Tryz.ntmps19
   go_wp2_with (first
    | (go_at_call 36;refine(HC2.out _).mono ?_;rintro e w2 ⟨rfl,rfl⟩)
    | (go_at_call 37;refine(HT.out _ HK.out).mono ?_;rintro e w3 ⟨rfl,hb3⟩;have HB3:=hD hb3;clear hb3))
   go_ret
   exact ze2 rfl HB3.out
  | ok s2=>
   unfold LineW at HT
   simp only at HT
   go_enter Tryz.func19,Tryz.ntmps19
   go_wp2_with (first
    | (go_at_call 36;refine(HC2.out _).mono ?_;rintro e w2 ⟨rfl,rfl⟩)
    | (go_at_call 37;refine(HT.out _ HK.out).mono ?_;rintro e w3 ⟨va',vf',vp',vc',vq',rfl,hm3⟩;have HM3:=hD hm3;clear hm3))
   go_ret
   exact zh5 rfl HM3.out
 | false=>
  have h':Lib.hasPrefix x.data.toList (⟨#[112,114,101,100,32]⟩:ByteArray).data.toList=false:=h
  rw [h'] at HC
  have HC2:Hid (∀ w:World,Calls Tryz.prog 36 #[.string x,.string ⟨#[112,114,101,100,32]⟩] w fun e w'=>e=.returned (.tuple #[.string (bs (Lib.trimPrefix x.data.toList predWord)),.bool false])∧w'=w):=HC
  clear h' hk HC
  generalize bs (Lib.trimPrefix x.data.toList predWord)=t at HC2
  cases h2:Lib.hasPrefix x.data.toList [64] with
  | true=>
   have h':Lib.hasPrefix x.data.toList (⟨#[64]⟩:ByteArray).data.toList=true:=h2
   rw [h'] at HH
   have HT:=hD (fun W h=>zr13 w0 g M va vf vp vc vq s x (by omega) (by omega) hp W h)
   rw [← zd20 (n:=n) h h2,hr] at HT
   clear h h' h2 hr hx hl hla hp
   cases r with
   | error c=>
    unfold LineW at HT
    simp only at HT
    go_enter Tryz.func19,Tryz.ntmps19
    go_wp2_with (first
     | (go_at_call 36;refine(HC2.out _).mono ?_;rintro e w2 ⟨rfl,rfl⟩)
     | (go_at_call 38;refine(HH.out _).mono ?_;rintro e w2 ⟨rfl,rfl⟩)
     | (go_at_call 39;refine(HT.out _ HK.out).mono ?_;rintro e w3 ⟨rfl,hb3⟩;have HB3:=hD hb3;clear hb3))
    go_ret
    exact ze2 rfl HB3.out
   | ok s2=>
    unfold LineW at HT
    simp only at HT
    go_enter Tryz.func19,Tryz.ntmps19
    go_wp2_with (first
     | (go_at_call 36;refine(HC2.out _).mono ?_;rintro e w2 ⟨rfl,rfl⟩)
     | (go_at_call 38;refine(HH.out _).mono ?_;rintro e w2 ⟨rfl,rfl⟩)
     | (go_at_call 39;refine(HT.out _ HK.out).mono ?_;rintro e w3 ⟨va',vf',vp',vc',vq',rfl,hm3⟩;have HM3:=hD hm3;clear hm3))
    go_ret
    exact zh5 rfl HM3.out
  | false=>
   have h':Lib.hasPrefix x.data.toList (⟨#[64]⟩:ByteArray).data.toList=false:=h2
   rw [h'] at HH
   have HT:=hD (fun W h=>zq13 w0 g M va vf vp vc vq s n x hx hl hp W h)
   rw [← za20 (n:=n) h h2,hr] at HT
   clear h h' h2 hr hx hl hla hp
   cases r with
   | error c=>
    unfold LineW at HT
    simp only at HT
    go_enter Tryz.func19,Tryz.ntmps19
    go_wp2_with (first
     | (go_at_call 36;refine(HC2.out _).mono ?_;rintro e w2 ⟨rfl,rfl⟩)
     | (go_at_call 38;refine(HH.out _).mono ?_;rintro e w2 ⟨rfl,rfl⟩)
     | (go_at_call 40;refine(HT.out _ HK.out).mono ?_;rintro e w3 ⟨rfl,hb3⟩;have HB3:=hD hb3;clear hb3))
    go_ret
    exact ze2 rfl HB3.out
   | ok s2=>
    unfold LineW at HT
    simp only at HT
    go_enter Tryz.func19,Tryz.ntmps19
    go_wp2_with (first
     | (go_at_call 36;refine(HC2.out _).mono ?_;rintro e w2 ⟨rfl,rfl⟩)
     | (go_at_call 38;refine(HH.out _).mono ?_;rintro e w2 ⟨rfl,rfl⟩)
     | (go_at_call 40;refine(HT.out _ HK.out).mono ?_;rintro e w3 ⟨va',vf',vp',vc',vq',rfl,hm3⟩;have HM3:=hD hm3;clear hm3))
    go_ret
    exact zh5 rfl HM3.out
end Go.Proofs.YtlmbiafloiompaaGreatDoor

namespace Go.Proofs.YtlmbiafloiompaaGreatDoor
open Go
theorem opStep_bd {op kind:Int} {w:List UInt8} {o o':Ob} {n:Int} (h:opStep op kind w o=some (n,o')) (hop:op=26→kind=8) :
  0≤n∧n≤(o.atoms.length:Int)+o.funs.length+o.preds.length+65535∧o'.atoms.length≤o.atoms.length+1∧o'.funs.length≤o.funs.length+1∧o'.preds.length≤o.preds.length+1∧o'.code=o.code:=by
 cases hn:isNamedB kind w with
 | true=>
  rw [zi12 hn] at h
  have h1:=zv11 h
  refine⟨h1.1,by omega,h1.2.2.1,h1.2.2.2.1,h1.2.2.2.2,?_⟩
  unfold numStep at h
  split at h
  ·split at h
   ·injection h with h
    injection h with _ h
    rw [← h]
   ·cases h
  ·split at h
   ·cases hf:funOf w 1 with
    | none=>rw [hf] at h;cases h
    | some f=>
     rw [hf] at h
     injection h with h
     injection h with _ h
     rw [← h]
   ·split at h
    ·cases hf:funOf w 0 with
     | none=>rw [hf] at h;cases h
     | some f=>
      rw [hf] at h
      injection h with h
      have h:predStep o f=(n,o'):=h
      have h2:o'=(predStep o f).2:=by rw [h]
      rw [h2,zx1]
    ·cases hf:labelOf w with
     | none=>rw [hf] at h;cases h
     | some f=>
      rw [hf] at h
      injection h with h
      injection h with _ h
      rw [← h]
 | false=>
  rw [zj12 hn hop] at h
  cases ha:argW op kind w with
  | none=>rw [ha] at h;cases h
  | some m=>
   rw [ha] at h
   injection h with h
   injection h with h1 h2
   subst h1 h2
   have:=may_bd (zu13 ha).1
   exact⟨this.1,by omega,by omega,by omega,by omega,rfl⟩
theorem zq7 {op:Int}:∀ {ks:List Int} {ws:List (List UInt8)} {o o':Ob} {x:List Int},opsStep op ks ws o=some (x,o')→(op=26→∀ k ∈ ks,k=8)→o.atoms.length+o.funs.length+o.preds.length+3 * ks.length≤2800000 →
  (∀ z ∈ x,0≤z∧z≤4000000)∧o'.code=o.code∧x.length=ks.length∧o'.atoms.length≤o.atoms.length+ks.length∧o'.funs.length≤o.funs.length+ks.length∧o'.preds.length≤o.preds.length+ks.length
 | [],ws,o,o',x,h,_,_=>by
  rw [opsStep] at h
  injection h with h
  injection h with h1 h2
  subst h1 h2
  exact⟨fun z hz=>absurd hz (by simp),rfl,rfl,by simp,by simp,by simp⟩
 | k :: ks,ws,o,o',x,h,hop,hl=>by
  rw [opsStep] at h
  rw [List.length_cons] at hl
  cases h1:opStep op k (ws.headD []) o with
  | none=>rw [h1] at h;cases h
  | some r=>
   obtain⟨n,o1⟩:=r
   rw [h1] at h
   have b1:=opStep_bd h1 (fun e=>hop e k (by simp))
   cases h2:opsStep op ks ws.tail o1 with
   | none=>simp only [h2] at h;cases h
   | some r2=>
    obtain⟨y,o2⟩:=r2
    simp only [h2] at h
    injection h with h
    injection h with h3 h4
    subst h3 h4
    obtain⟨c1,c2,c3,c4,c5,c6⟩:=zq7 h2 (fun e k hk=>hop e k (by simp [hk])) (by omega)
    simp only [List.length_cons]
    refine⟨fun z hz=>?_,by rw [c2];exact b1.2.2.2.2.2,by omega,by omega,by omega,by omega⟩
    rcases List.mem_cons.1 hz with rfl | hz
    ·exact⟨b1.1,by omega⟩
    ·exact c1 z hz
theorem ze18 {ns:List Int} {b:Int} (hb:0≤b) (h:∀ z ∈ ns,0≤z∧z≤b) (k:Nat):0≤ns.getD k 0∧ns.getD k 0≤b:=by
 rw [List.getD_eq_getElem?_getD]
 cases e:ns[k]? with
 | none=>simpa using hb
 | some z=>exact h z (List.mem_of_getElem? e)
theorem zp4 (op:Int) (x:List Int) (m:Nat) (hm:m<4):(argOf (insOf op x)).getD m 0=x.getD m 0:=by
 match m,hm with
 | 0,_=>rfl
 | 1,_=>rfl
 | 2,_=>rfl
 | 3,_=>rfl
structure StB (s:St):Prop where
 pts:∀ p ∈ s.pts,0≤p.2.1∧p.2.1≤(s.ob.code.length:Int)∧(p.2.2=false→p.2.1<(s.ob.code.length:Int))
 labs:∀ q ∈ s.labs,0≤q.2
 code:∀ i ∈ s.ob.code,∀ m,m<4→0≤(argOf i).getD m 0∧(argOf i).getD m 0≤4000000
theorem StB.start:StB startSt:=⟨fun p h=>absurd h (by simp [startSt]),fun p h=>absurd h (by simp [startSt]),fun p h=>absurd h (by simp [startSt,emptyOb])⟩
theorem line_bd {n:Int} {l:List UInt8} {s s':St} (h:lineStep n l s=.ok s') (hb:StB s) (hl:s.ob.atoms.length+s.ob.funs.length+s.ob.preds.length≤2700000) :
  StB s'∧s'.pts.length≤s.pts.length+1∧s'.labs.length≤s.labs.length+1∧(∀ p ∈ s'.pts,p ∈ s.pts ∨ p.1=n):=by
 unfold lineStep at h
 split at h
 ·unfold predLine at h
  split at h
  ·cases h
  ·rename_i f hf
   split at h
   ·cases h
   ·injection h with h
    subst h
    have hc:=zx1 s.ob f
    refine⟨⟨fun p hp=>?_,hb.labs,fun i hi=>hb.code i (by rw [← hc];exact hi)⟩,by simp,by simp,fun p hp=>?_⟩
    ·simp only [hc]
     rcases List.mem_append.1 hp with hp | hp
     ·exact hb.pts p hp
     ·rw [List.mem_singleton.1 hp]
      exact⟨by simp,by simp,fun e=>by cases e⟩
    ·rcases List.mem_append.1 hp with hp | hp
     ·exact .inl hp
     ·rw [List.mem_singleton.1 hp]
      exact .inr rfl
 ·split at h
  ·unfold labelLine at h
   split at h
   ·cases h
   ·split at h
    ·cases h
    ·injection h with h
     subst h
     refine⟨⟨hb.pts,fun q hq=>?_,hb.code⟩,by simp,by simp,fun p hp=>.inl hp⟩
     rcases List.mem_append.1 hq with hq | hq
     ·exact hb.labs q hq
     ·rw [List.mem_singleton.1 hq]
      simp
  ·unfold instrLine at h
   split at h
   ·cases h
   ·split at h
    ·cases h
    ·rename_i x o' hs
     injection h with h
     subst h
     have hfew:=zv1 (namedOf (bs ((splitW l).getD 0 [])))
     obtain⟨c1,c2,c3,c4⟩:=zq7 hs (zv8 _) (by omega)
     refine⟨⟨fun p hp=>?_,hb.labs,fun i hi m hm=>?_⟩,by simp,by simp,fun p hp=>?_⟩
     ·simp only [c2,List.length_append,List.length_singleton]
      rcases List.mem_append.1 hp with hp | hp
      ·have:=hb.pts p hp
       exact⟨this.1,by omega,fun e=>by have:=this.2.2 e;omega⟩
      ·rw [List.mem_singleton.1 hp]
       refine⟨?_,?_,fun _=>?_⟩ <;> simp only <;> omega
     ·simp only [c2] at hi
      rcases List.mem_append.1 hi with hi | hi
      ·exact hb.code i hi m hm
      ·rw [List.mem_singleton.1 hi,zp4 _ _ m hm]
       exact ze18 (by omega) c1 m
     ·rcases List.mem_append.1 hp with hp | hp
      ·exact .inl hp
      ·rw [List.mem_singleton.1 hp]
       exact .inr rfl
theorem big_bd {o:Ob} (h:bigO o=false):o.atoms.length≤256∧o.funs.length≤256∧o.preds.length≤64∧o.code.length≤1024:=by
 unfold bigO bigB at h
 simp at h
 omega
theorem zv4 {labs:List (Int × Int)} (hlab:∀ q ∈ labs,0≤q.2) {m:Nat} (hm:m≤2000):∀ {ks xs l:List Int},placeArgs labs m ks xs=some l→(∀ z ∈ xs,0≤z∧z≤4000000)→∀ z ∈ l,0≤z∧z≤4000000
 | [],xs,l,h,hx=>by
  rw [placeArgs] at h
  injection h with h
  subst h
  exact hx
 | k :: ks,xs,l,h,hx=>by
  have hh:0≤xs.headD 0∧xs.headD 0≤4000000:=by
   cases xs with
   | nil=>simp
   | cons a t=>exact hx a (by simp)
  have ht:∀ z ∈ xs.tail,0≤z∧z≤4000000:=fun z hz=>hx z (List.mem_of_mem_tail hz)
  rw [placeArgs] at h
  split at h
  ·split at h
   ·cases h
   ·rename_i x hx2
    split at h
    ·cases h
    ·cases h2:placeArgs labs m ks xs.tail with
     | none=>rw [h2] at h;cases h
     | some y=>
      rw [h2] at h
      injection h with h
      subst h
      have ih:=zv4 hlab hm h2 ht
      intro z hz
      rcases List.mem_cons.1 hz with rfl | hz
      ·refine⟨?_,by omega⟩
       unfold labOf at hx2
       cases hf:labs.find? (fun p=>p.1 == xs.headD 0) with
       | none=>rw [hf] at hx2;cases hx2
       | some q=>
        rw [hf] at hx2
        injection hx2 with hx2
        rw [← hx2]
        exact hlab q (List.mem_of_find?_eq_some hf)
      ·exact ih z hz
  ·cases h2:placeArgs labs m ks xs.tail with
   | none=>rw [h2] at h;cases h
   | some y=>
    rw [h2] at h
    injection h with h
    subst h
    have ih:=zv4 hlab hm h2 ht
    intro z hz
    rcases List.mem_cons.1 hz with rfl | hz
    ·exact hh
    ·exact ih z hz
theorem pt_bd {labs:List (Int × Int)} (hlab:∀ q ∈ labs,0≤q.2) {o o':Ob} {p:Int × Int × Bool} (h:ptStep labs o p=.ok o') (hm:o.code.length≤2000) (hc:∀ i ∈ o.code,∀ m,m<4→0≤(argOf i).getD m 0∧(argOf i).getD m 0≤4000000) :
  o'.code.length=o.code.length∧o'.preds=o.preds∧o'.atoms=o.atoms∧o'.funs=o.funs∧∀ i ∈ o'.code,∀ m,m<4→0≤(argOf i).getD m 0∧(argOf i).getD m 0≤4000000:=by
 unfold ptStep at h
 split at h
 ·split at h
  ·cases h
  ·injection h with h
   subst h
   exact⟨rfl,rfl,rfl,rfl,hc⟩
 ·split at h
  ·cases h
  ·rename_i i hi
   injection h with h
   subst h
   refine⟨by simp,rfl,rfl,rfl,fun j hj m hm4=>?_⟩
   rcases List.mem_or_eq_of_mem_set hj with hj | rfl
   ·exact hc j hj m hm4
   ·unfold placeIns at hi
    cases h2:placeArgs labs o.code.length (opsOf (o.code.getD p.2.1.toNat (0,0,0,0,0)).1) (argOf (o.code.getD p.2.1.toNat (0,0,0,0,0))) with
    | none=>rw [h2] at hi;cases hi
    | some y=>
     rw [h2] at hi
     injection hi with hi
     rw [← hi,zp4 _ _ m hm4]
     refine ze18 (by omega) (zv4 hlab hm h2 ?_) m
     have hz:∀ m,m<4→0≤(argOf (o.code.getD p.2.1.toNat (0,0,0,0,0))).getD m 0∧(argOf (o.code.getD p.2.1.toNat (0,0,0,0,0))).getD m 0≤4000000:=by
      intro m hm4
      rw [List.getD_eq_getElem?_getD (l:=o.code)]
      cases e:o.code[p.2.1.toNat]? with
      | none=>
       match m,hm4 with
       | 0,_=>decide
       | 1,_=>decide
       | 2,_=>decide
       | 3,_=>decide
      | some i=>exact hc i (List.mem_of_getElem? e) m hm4
     intro z hz2
     obtain⟨k,hk,rfl⟩:=List.getElem_of_mem hz2
     have:=hz k (by simpa [zh9] using hk)
     rw [List.getD_eq_getElem?_getD,List.getElem?_eq_getElem hk] at this
     exact this
end Go.Proofs.YtlmbiafloiompaaGreatDoor

namespace Go.Proofs.YtlmbiafloiompaaGreatDoor
open Go Go.RowKit Go.WideShapes Go.ChangeShapes
def SettleV (w0 w:World) (g M:Nat) (va vf vp vc vq:Value) (s:St) (r:Except (Int × Int) Ob) (e:Ending) (w':World):Prop:=
 match r with
 | .error c=>e=.returned (.int .i64 c.1)∧Below w0.heap.size w0 w'∧Fr (fun k=>vc.ownBlock=some k) w w'
 | .ok o=>e=.returned (.int .i64 0)∧Mk w0 w' g M va vf vp vc vq { s with ob:=o }
theorem ze17 {w0 w w':World} {g M:Nat} {va vf vp vc vq:Value} {s:St} {r:Except (Int × Int) Ob} {c n:Int} (h:r=.error (c,n)) (hb:Below w0.heap.size w0 w') (hf:Fr (fun k=>vc.ownBlock=some k) w w'):SettleV w0 w g M va vf vp vc vq s r (.returned (.int .i64 c)) w':=by
 subst h
 exact⟨rfl,hb,hf⟩
theorem zy20 {w0 w w':World} {g M:Nat} {va vf vp vc vq:Value} {s:St} {r:Except (Int × Int) Ob} {o:Ob} (h:r=.ok o) (hk:Mk w0 w' g M va vf vp vc vq { s with ob:=o }):SettleV w0 w g M va vf vp vc vq s r (.returned (.int .i64 0)) w':=by
 subst h
 exact⟨rfl,hk⟩
set_option maxRecDepth 100000 in
set_option maxHeartbeats 8000000 in
theorem zd17 (w0:World) (g M:Nat) (va vf vp vc vq:Value) (s:St) (l n:Int) (b:Bool) (hn:b=false→0≤n∧n<s.ob.code.length) (hA:∀ i (hi:i<s.ob.code.length),∀ m,m<4→-9223372036854775808≤(argOf s.ob.code[i]).getD m 0∧(argOf s.ob.code[i]).getD m 0≤9223372036854775807)
  (hl:s.ob.preds.length≤1000000∧s.ob.code.length≤1000000) (w:World) (hk:Mk w0 w g M va vf vp vc vq s) :
  Calls Tryz.prog 21 #[.pointer (some ⟨g,0,none⟩),.agg #[.int .i64 l,.int .i64 n,.bool b]] w (SettleV w0 w g M va vf vp vc vq s (ptStep s.labs s.ob (l,n,b))):=by
 cases b with
 | false=>
  obtain⟨gc,cc,rfl⟩:=zw8 hk.rc (by have:=hn rfl;omega)
  refine(zz20 w0 g M gc cc va vf vp vq s l n false hn hA hl w hk).mono fun e w' h=>?_
  unfold SettleW at h
  unfold SettleV
  cases hr:ptStep s.labs s.ob (l,n,false) with
  | error c=>
   rw [hr] at h
   exact⟨h.1,h.2.1,h.2.2.mono fun k _ e=>by rw [e];rfl⟩
  | ok o=>
   rw [hr] at h
   exact⟨h.1,h.2.1⟩
 | true=>
  have K1:=hD (hk.alloc (.cells #[.int .i64 l,.int .i64 n,.bool true] 82))
  have HE:Hid (ptStep s.labs s.ob (l,n,true)=if (s.ob.code.length:Int)≤n ∨ 1<cntOf s.ob.preds n then .error (7,l) else .ok s.ob):=hD rfl
  have HS:=hD (fun W h=>zp5 w0 g M va vf vp vc vq s n hl W h)
  generalize ptStep s.labs s.ob (l,n,true)=r at HE
  by_cases hc:(s.ob.code.length:Int)≤n ∨ 1<cntOf s.ob.preds n
  ·have HX:Hid (r=.error (7,l)):=hD (by rw [HE.out,if_pos hc])
   rw [if_pos hc] at HS
   clear hc hk hn hA
   go_enter Tryz.func21,Tryz.ntmps21
   go_wp2_with (go_at_call 41;refine(HS.out _ K1.out).mono ?_;rintro e w2 ⟨rfl,hk2,hb2⟩;have HK2:=hD hk2;have HF2:Hid (Fr (fun k=>vc.ownBlock=some k) w w2):=hD (((Fr.refl _ w).alloc _).trans (Fr.of_below hb2));clear hk2 hb2)
   go_ret
   exact ze17 HX.out HK2.out.below HF2.out
  ·have HX:Hid (r=.ok s.ob):=hD (by rw [HE.out,if_neg hc])
   rw [if_neg hc] at HS
   clear hc hk hn hA
   go_enter Tryz.func21,Tryz.ntmps21
   go_wp2_with (go_at_call 41;refine(HS.out _ K1.out).mono ?_;rintro e w2 ⟨rfl,hk2,_⟩;have HK2:=hD hk2;clear hk2)
   go_ret
   exact zy20 HX.out HK2.out
structure ObOwn (w:World) (base:Nat) (va vf vp vc:Value) (o:Ob):Prop where
 ra:w.ownsRow base 9 1 va o.atoms.length (o.atoms.map Value.string)
 rf:w.ownsRow base 61 2 vf o.funs.length (o.funs.flatMap funC)
 rp:w.ownsRow base 64 3 vp o.preds.length (o.preds.flatMap predC)
 rc:w.ownsRow base 65 5 vc o.code.length (o.code.flatMap insC)
theorem ObOwn.at_ {w:World} {base:Nat} {va vf vp vc:Value} {o:Ob} (h:ObOwn w base va vf vp vc o):ObAt w va vf vp vc o:=
 ⟨CellsAt.of_own h.ra (by decide),CellsAt.of_own h.rf (by decide),CellsAt.of_own h.rp (by decide),CellsAt.of_own h.rc (by decide)⟩
theorem ObOwn.of_mk {w0 w:World} {g M:Nat} {va vf vp vc vq:Value} {s:St} (h:Mk w0 w g M va vf vp vc vq s) {base:Nat} (hb:base≤w0.heap.size):ObOwn w base va vf vp vc s.ob:=
 ⟨zh4 h.ra fun k hk=>Nat.le_trans hb (own_ge h.ra hk).1,zh4 h.rf fun k hk=>Nat.le_trans hb (own_ge h.rf hk).1,zh4 h.rp fun k hk=>Nat.le_trans hb (own_ge h.rp hk).1,zh4 h.rc fun k hk=>Nat.le_trans hb (own_ge h.rc hk).1⟩
theorem ObOwn.nil (w:World) (base:Nat):ObOwn w base (.slice none 0 0) (.slice none 0 0) (.slice none 0 0) (.slice none 0 0) emptyOb:=
 ⟨⟨rfl,.inl ⟨rfl,rfl⟩⟩,⟨rfl,.inl ⟨rfl,rfl⟩⟩,⟨rfl,.inl ⟨rfl,rfl⟩⟩,⟨rfl,.inl ⟨rfl,rfl⟩⟩⟩
def AsmW (w:World) (r:Ob × Int × Int) (e:Ending) (w':World):Prop:=
 ∃ va vf vp vc,e=.returned (.tuple #[.agg #[va,vf,vp,vc],.int .i64 r.2.1,.int .i64 r.2.2])∧ObOwn w' w.heap.size va vf vp vc r.1∧Below w.heap.size w w'
theorem zt12 {w w':World} {r:Ob × Int × Int} {c n:Int} (h:r=(emptyOb,c,n)) (hb:Below w.heap.size w w'):AsmW w r (.returned (.tuple #[.agg #[.slice none 0 0,.slice none 0 0,.slice none 0 0,.slice none 0 0],.int .i64 c,.int .i64 n])) w':=by
 subst h
 exact⟨_,_,_,_,rfl,ObOwn.nil _ _,hb⟩
theorem asmW_ok {w w':World} {va vf vp vc:Value} {r:Ob × Int × Int} {o:Ob} (h:r=(o,0,-1)) (ho:ObOwn w' w.heap.size va vf vp vc o) (hb:Below w.heap.size w w'):AsmW w r (.returned (.tuple #[.agg #[va,vf,vp,vc],.int .i64 0,.int .i64 (-1)])) w':=by
 subst h
 exact⟨_,_,_,_,rfl,ho,hb⟩
def LnP (L:List (List UInt8)) (k:Nat) (s:St):Prop:=linesStep 0 L startSt=linesStep k (L.drop k) s∧StB s∧s.pts.length≤k∧s.labs.length≤k∧s.ob.atoms.length≤256∧s.ob.funs.length≤256∧s.ob.preds.length≤64∧s.ob.code.length≤1024
theorem LnP.start (L:List (List UInt8)):LnP L 0 startSt:=⟨rfl,StB.start,by simp [startSt],by simp [startSt],by simp [startSt,emptyOb],by simp [startSt,emptyOb],by simp [startSt,emptyOb],by simp [startSt,emptyOb]⟩
theorem LnP.err {L:List (List UInt8)} {k:Nat} {s:St} {c:Int} (h:LnP L k s) (hk:k<L.length) (he:lineStep (k:Int) L[k] s=.error c):asmOf L=(emptyOb,c,(k:Int)):=by
 have e:linesStep 0 L startSt=.error (c,(k:Int)):=by
  rw [h.1,List.drop_eq_getElem_cons hk,linesStep,he]
 rw [asmOf,e]
theorem LnP.big {L:List (List UInt8)} {k:Nat} {s s':St} (h:LnP L k s) (hk:k<L.length) (he:lineStep (k:Int) L[k] s=.ok s') (hb:bigO s'.ob=true):asmOf L=(emptyOb,2,(k:Int)):=by
 have e:linesStep 0 L startSt=.error (2,(k:Int)):=by
  rw [h.1,List.drop_eq_getElem_cons hk,linesStep,he]
  simp only
  rw [if_pos hb]
 rw [asmOf,e]
theorem LnP.ok {L:List (List UInt8)} {k:Nat} {s s':St} (h:LnP L k s) (hk:k<L.length) (he:lineStep (k:Int) L[k] s=.ok s') (hb:bigO s'.ob=false):LnP L (k+1) s':=by
 obtain⟨h1,h2,h3,h4,h5,h6,h7,h8⟩:=h
 obtain⟨b1,b2,b3,_⟩:=line_bd he h2 (by omega)
 obtain⟨g1,g2,g3,g4⟩:=big_bd hb
 refine⟨?_,b1,by omega,by omega,g1,g2,g3,g4⟩
 rw [h1,List.drop_eq_getElem_cons hk,linesStep,he]
 simp only
 rw [if_neg (by rw [hb];decide)]
theorem LnP.done {L:List (List UInt8)} {s:St} (h:LnP L L.length s):asmOf L=match ptsStep s.labs s.pts s.ob with
  | .error (e,n)=>(emptyOb,e,n)
  | .ok o=>(o,0,-1):=by
 have e:linesStep 0 L startSt=.ok s:=by
  rw [h.1,List.drop_length,linesStep]
 rw [asmOf,e]
 rfl
def PtP (s:St) (k:Nat) (o:Ob):Prop:=ptsStep s.labs s.pts s.ob=ptsStep s.labs (s.pts.drop k) o∧o.code.length=s.ob.code.length∧o.preds=s.ob.preds∧(∀ i ∈ o.code,∀ m,m<4→0≤(argOf i).getD m 0∧(argOf i).getD m 0≤4000000)
theorem PtP.start {s:St} (h:StB s):PtP s 0 s.ob:=⟨rfl,rfl,rfl,h.code⟩
theorem PtP.err {s:St} {k:Nat} {o:Ob} {c:Int × Int} (h:PtP s k o) (hk:k<s.pts.length) (he:ptStep s.labs o s.pts[k]=.error c):ptsStep s.labs s.pts s.ob=.error c:=by
 rw [h.1,List.drop_eq_getElem_cons hk,ptsStep,he]
theorem PtP.ok {s:St} {k:Nat} {o o':Ob} (h:PtP s k o) (hb:StB s) (hl:s.ob.code.length≤2000) (hk:k<s.pts.length) (he:ptStep s.labs o s.pts[k]=.ok o'):PtP s (k+1) o':=by
 obtain⟨b1,b2,_,_,b3⟩:=pt_bd hb.labs he (by rw [h.2.1];exact hl) h.2.2.2
 refine⟨?_,by rw [b1,h.2.1],by rw [b2,h.2.2.1],b3⟩
 rw [h.1,List.drop_eq_getElem_cons hk,ptsStep,he]
theorem PtP.done {s:St} {o:Ob} (h:PtP s s.pts.length o):ptsStep s.labs s.pts s.ob=.ok o:=by
 rw [h.1,List.drop_length,ptsStep]
theorem ptCell {w:World} {base:Nat} {A:Option Addr} {c:Nat} {l:List (Int × Int × Bool)} (h:w.ownsRow base 82 3 (.slice A l.length c) l.length (l.flatMap ptC)) (k:Nat) (hk:k<l.length) :
  ∃ b,A=some ⟨b,0,none⟩∧w.cell? ⟨b,k * 3,none⟩=some (.int .i64 l[k].1)∧w.cell? ⟨b,k * 3+1,none⟩=some (.int .i64 l[k].2.1)∧w.cell? ⟨b,k * 3+2,none⟩=some (.bool l[k].2.2):=by
 obtain⟨b,cp,hv⟩:=zw8 h (by omega)
 injection hv with hA _ _
 subst hA
 have hf:=zb3 ptC 3 (fun _=>rfl) l k l[k] (by simp [hk])
 have c0:=h.cells (g:=b) rfl _ _ (hf 0 (by omega))
 have c1:=h.cells (g:=b) rfl _ _ (hf 1 (by omega))
 have c2:=h.cells (g:=b) rfl _ _ (hf 2 (by omega))
 rw [add_plain,Nat.zero_add] at c0 c1 c2
 exact⟨b,rfl,c0,c1,c2⟩
end Go.Proofs.YtlmbiafloiompaaGreatDoor
