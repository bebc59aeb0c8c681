/-
  2 texts in one (ObjB ObjC). Conditions: those of each theorem.
-/
import Derived.Test.YtlmbiafloiompaaGreatDoorJO01
import Derived.Maps.Own
import Derived.Maps.Views
import Derived.Maps.OwnSet
import Derived.DeepKeys4
import Derived.StringKeys
import Derived.Maps.AppendAt
import Derived.Lib.AppendStr
set_option linter.unusedVariables false
set_option linter.unusedSimpArgs false
namespace Go.Proofs.YtlmbiafloiompaaGreatDoor
open Go Go.RowKit Go.WideShapes Go.ChangeShapes Go.Maps
def seenL (acc:List (List UInt8)):DataW Unit:=setOf (.lit (.bool true)) (acc.map Lit.string)
theorem zb12 (n:List UInt8) (z:DataW Unit):∀ (acc:List (List UInt8)) (m:DataW Unit),IsMap m →
  ((acc.map Lit.string).foldl (fun m x=>m.put x (.lit (.bool true))) m).atKey (.string n) z=if n ∈ acc then .lit (.bool true) else m.atKey (.string n) z
 | [],m,_=>by simp
 | a :: r,m,hm=>by
  rw [List.map_cons,List.foldl_cons,zb12 n z r _ (hm.put _ _)]
  by_cases h:n=a
  ·subst h
   rw [atKey_put_same hm (show WideAt.IsKeyLit (Lit.string n) from trivial)]
   simp
  ·rw [atKey_put_other (by simpa using h)]
   simp [h]
theorem seenL_at (acc:List (List UInt8)) (n:List UInt8):(seenL acc).atKey (.string n) (.lit (.bool false))=.lit (.bool (decide (n ∈ acc))):=by
 unfold seenL setOf
 rw [zb12 n _ acc _ isMap_empty]
 by_cases h:n ∈ acc <;> simp [h] <;> rfl
theorem uBool:Tryz.prog.underlying 4=some .bool:=by kernel_rfl
theorem zBool (w:World):(zeroValue 4).run Tryz.prog w=.ok (.bool false) w:=by kernel_rfl
def SetAt (w:World) (k:TypeId) (M:Nat) (acc:List (List UInt8)):Prop:=w.ownsMap Tryz.prog k (plainElem Tryz.prog 4) M acc.length (seenL acc)
theorem SetAt.lt {w:World} {k:TypeId} {M:Nat} {acc:List (List UInt8)} (h:SetAt w k M acc):M<w.heap.size:=World.ownsMap.lt h
theorem SetAt.look {w:World} {k t:TypeId} {M:Nat} {acc:List (List UInt8)} (h:SetAt w k M acc) (K:Keyed Tryz.prog k) (ht:Tryz.prog.underlying t=some (.map k 4)) {key:Value} {kl:List UInt8} (hk:keyOf Tryz.prog k key=some (.string kl)) :
  (Instr.lookup t (.map (some M)) key false).run Tryz.prog w=.ok (.bool (decide (kl ∈ acc))) w:=by
 obtain⟨v,ps,hrun,hv⟩:=World.ownsMap.lookup h K ht (zBool w) (plainElem_bool uBool false) hk
 rw [seenL_at] at hv
 have:v=.bool (decide (kl ∈ acc)):=by
  unfold plainElem at hv
  rw [uBool] at hv
  cases v <;> simp at hv
  simp [hv]
 rw [← this]
 exact hrun
theorem SetAt.upd {w:World} {k t:TypeId} {M:Nat} {acc:List (List UInt8)} (h:SetAt w k M acc) (K:Keyed Tryz.prog k) (ht:Tryz.prog.underlying t=some (.map k 4)) {key:Value} {kl:List UInt8} (hk:keyOf Tryz.prog k key=some (.string kl)) (hl:acc.length<maxLen) :
  ∃ w',(Instr.mapUpdate t (.map (some M)) key (.bool true)).run Tryz.prog w=.ok () w'∧SetAt w' k M (acc ++ [kl])∧w.grownBy w' (some M):=by
 obtain⟨w',h1,h2,h3⟩:=World.ownsMap.update h K ht hl hk (plainElem_bool uBool true)
 refine⟨w',h1,?_,h3⟩
 have e:seenL (acc ++ [kl])=(seenL acc).put (.string kl) (.lit (.bool true)):=by
  unfold seenL
  rw [List.map_append,List.map_singleton,setOf_snoc]
 have e2:(acc ++ [kl]).length=acc.length+1:=by simp
 unfold SetAt
 rw [e,e2]
 exact h2
theorem uStr:Tryz.prog.underlying 9=some .string:=by kernel_rfl
theorem zj17:Tryz.prog.underlying 161=some (.map 9 4):=by kernel_rfl
theorem zi17:Tryz.prog.underlying 162=some (.map 61 4):=by kernel_rfl
theorem zh18:Keyed Tryz.prog 9:=string_keyed uStr
theorem ze20:laidOutB Tryz.prog=true:=by kernel_rfl
theorem zg18:Keyed Tryz.prog 61:=Keyed.of_law (deep_law_laid ze20 (m:=3) (by omega) (of_decide_eq_true (by kernel_rfl)) (by kernel_rfl) (by kernel_rfl))
def litS (s:ByteArray):List UInt8:=s.data.toList
def litF (f:ByteArray × Int):List UInt8:=keyBytes [.string f.1.data.toList,.int .i64 f.2]
theorem keyS {s:ByteArray} (h:s.size≤maxLen):keyOf Tryz.prog 9 (.string s)=some (.string (litS s)):=WideMaps.keyOf_string_mk uStr h
theorem keyTypeF:Tryz.prog.keyType 61=true:=by kernel_rfl
theorem cellsF:Tryz.prog.cellsOf 61=2:=by kernel_rfl
theorem cellsStr1:Tryz.prog.cellsOf 9=1:=by kernel_rfl
theorem cellsInt1:Tryz.prog.cellsOf 3=1:=by kernel_rfl
theorem uInt:Tryz.prog.underlying 3=some (.int .i64):=by kernel_rfl
theorem typesPos:0<Tryz.prog.types.size:=of_decide_eq_true (by kernel_rfl)
theorem typesSize:∃ m,Tryz.prog.types.size=m+1:=⟨Tryz.prog.types.size - 1,by have:=typesPos;omega⟩
theorem keyF {f:ByteArray × Int} (h:f.1.size≤maxLen) (hn:(Lit.int .i64 f.2).wf=true):keyOf Tryz.prog 61 (.agg #[.string f.1,.int .i64 f.2])=some (.string (litF f)):=by
 obtain⟨m,hm⟩:=typesSize
 unfold keyOf
 simp only [Tryz.underlying61]
 rw [if_pos (by simp [keyTypeF,Value.formed,Tryz.underlying61,cellsF]),hm]
 unfold Program.keyLits
 simp only [Tryz.underlying61,Value.cells]
 rw [if_pos (by rw [cellsF];exact⟨rfl,by simp⟩)]
 simp [cellsStr1,cellsInt1,Program.keyLits,uStr,uInt,h,hn,litF]
theorem zx3 {α:Type} [DecidableEq α] (l:List α) (k:Nat) (h:k<l.length) (hd:(l.take k).Nodup) (hn:l[k] ∉ l.take k):(l.take (k+1)).Nodup:=by
 rw [List.take_succ_eq_append_getElem h,List.nodup_append]
 exact⟨hd,by simp,fun a ha b hb=>by rintro rfl;simp only [List.mem_singleton] at hb;subst hb;exact hn ha⟩
theorem zx4 {α:Type} [DecidableEq α] (l:List α) (k:Nat) (h:k<l.length) (hn:l[k] ∈ l.take k):twiceB l=true:=by
 have:¬ l.Nodup:=fun hd=>by
  have h2:(l.take (k+1)).Nodup:=hd.sublist (List.take_sublist _ _)
  rw [List.take_succ_eq_append_getElem h,List.nodup_append] at h2
  exact h2.2.2 _ hn _ (by simp) rfl
 simp [twiceB,this]
theorem za7 {α:Type} [DecidableEq α] (l:List α) (hd:l.Nodup):twiceB l=false:=by simp [twiceB,hd]
theorem zn4 (t k e:TypeId) (ht:Tryz.prog.underlying t=some (.map k e)) (n:Nat) (w:World):(Instr.makeMap t (some (.int .i64 (n:Int)))).run Tryz.prog w=.ok (.map (some w.heap.size)) (w.alloc (.map #[] 0)):=by
 simp [Instr.makeMap,run_underlying ht,asInt,asIntOf,go_sem]
structure Tw (w wr:World) (k:TypeId) (M:Nat) (acc:List (List UInt8)):Prop where
 set:SetAt wr k M acc
 new:w.heap.size≤M
 below:Below w.heap.size w wr
theorem Tw.alloc {w wr:World} {k:TypeId} {M:Nat} {acc:List (List UInt8)} (h:Tw w wr k M acc) (o:Obj):Tw w (wr.alloc o) k M acc:=⟨World.ownsMap.alloc h.set o,h.new,h.below.alloc h.below.size o⟩
set_option maxRecDepth 100000 in
set_option maxHeartbeats 2000000 in
theorem zi21 (l:List (ByteArray)) (hs:∀ s ∈ l,s.size≤maxLen) (hm:l.length≤1000000) (v:Value) (w:World) (hv:AtomsAt w v l) :
  Calls Tryz.prog 47 #[v] w fun e w'=>e=.returned (.bool (twiceB l))∧Below w.heap.size w w':=by
 obtain⟨A,c,rfl⟩:=CellsAt.form hv
 have HV:=hD hv
 have HS:=hD hs
 clear hv hs
 have T0:Hid (Tw w (w.alloc (.map #[] 0)) 9 w.heap.size []):=hD ⟨World.ownsMap_made w _ _ _,Nat.le_refl _,za w _⟩
 have hmm:=zn4 _ _ _ zj17 l.length w
 go_enter Tryz.func47,Tryz.ntmps47
 go_wp2
 obtain⟨M,hM⟩:∃ M,w.heap.size=M:=⟨_,rfl⟩
 rw [hM] at T0
 rw [hM]
 have HM:=hD hM
 obtain⟨w0,hw0⟩:∃ w0,w.alloc (.map #[] 0)=w0:=⟨_,rfl⟩
 rw [hw0] at T0 ⊢
 clear hM hw0
 go_loopw [11] (fun i wr=>∃ k:Nat,k≤l.length∧i=.int .i64 k∧Hid ((l.take k).Nodup)∧Hid (Tw w wr 9 M ((l.take k).map litS))) (fun i _=>l.length - (intOf i).toNat)
 case atStart=>exact⟨0,by omega,rfl,hD (by simp),T0⟩
 case round=>
  obtain⟨k,hk,rfl,HA,HB⟩:=hrel
  clear T0
  by_cases hlt:k<l.length
  ·obtain⟨b,off,rfl,hb,hc0⟩:=zf3 HV.out k hlt
   have d0:=(HB.out.below.cell (p:=⟨b,off+k,none⟩) hb).trans hc0
   have HBA:=HB
   have hkey:=keyS (HS.out _ (List.getElem_mem hlt))
   have hlk:=HBA.out.set.look zh18 zj17 hkey
   obtain⟨w6,hup,hset6,hgr6⟩:=HBA.out.set.upd zh18 zj17 hkey (by simp;unfold maxLen;omega)
   have HT6:Hid (Tw w w6 9 M ((l.take (k+1)).map litS)):=by
    refine hD ⟨?_,HB.out.new,HBA.out.below.trans ((Fr.of_grown (S:=fun b=>b=M) hgr6 (fun b _ e=>by injection e with e;exact e.symm)).below HBA.out.below.size (fun b e=>by rw [e];exact HB.out.new))⟩
    rw [List.take_succ_eq_append_getElem hlt,List.map_append]
    exact hset6
   have HI:Hid ((litS l[k] ∈ (l.take k).map litS) ↔ l[k] ∈ l.take k):=hD ⟨fun h=>by
    obtain⟨x,hx,he⟩:=List.mem_map.1 h
    have h1:=List.mem_of_mem_take hx
    have h2:=zh18.inj (by rw [← he] at hkey;exact hkey) (keyS (HS.out _ h1))
    injection h2 with h2;rw [h2];exact hx,fun h=>List.mem_map_of_mem h⟩
   have HY:=hD (fun h=>zx4 l k hlt h)
   have HN:=hD (fun h=>zx3 l k hlt HA.out h)
   clear hkey hset6 hgr6
   by_cases hin:l[k] ∈ l.take k
   ·rw [decide_eq_true (HI.out.2 hin)] at hlk
    have HY2:=hD (HY.out hin)
    clear hup hin
    go_wp2
    go_ret
    exact⟨by rw [HY2.out];rfl,HB.out.below⟩
   ·rw [decide_eq_false (fun h=>hin (HI.out.1 h))] at hlk
    have HN2:=hD (HN.out hin)
    clear hin HY HN HI
    go_wp2
    go_roundw
    case rel=>exact⟨k+1,by omega,by go_num,HN2,HT6⟩
    case measure=>simp [intOf];omega
  ·obtain rfl:k=l.length:=by omega
   have HF:Hid (twiceB l=false):=hD (za7 l (by
    have:=HA.out
    rw [List.take_length] at this
    exact this))
   go_wp2
   go_ret
   exact⟨by rw [HF.out];rfl,HB.out.below⟩
set_option maxRecDepth 100000 in
set_option maxHeartbeats 2000000 in
theorem zm12 (l:List (ByteArray × Int)) (hs:∀ s ∈ l,s.1.size≤maxLen∧(Lit.int .i64 s.2).wf=true) (hm:l.length≤1000000) (v:Value) (w:World) (hv:FunsAt w v l) :
  Calls Tryz.prog 48 #[v] w fun e w'=>e=.returned (.bool (twiceB l))∧Below w.heap.size w w':=by
 obtain⟨A,c,rfl⟩:=CellsAt.form hv
 have HV:=hD hv
 have HS:=hD hs
 clear hv hs
 have T0:Hid (Tw w (w.alloc (.map #[] 0)) 61 w.heap.size []):=hD ⟨World.ownsMap_made w _ _ _,Nat.le_refl _,za w _⟩
 have hmm:=zn4 _ _ _ zi17 l.length w
 go_enter Tryz.func48,Tryz.ntmps48
 go_wp2
 obtain⟨M,hM⟩:∃ M,w.heap.size=M:=⟨_,rfl⟩
 rw [hM] at T0
 rw [hM]
 have HM:=hD hM
 obtain⟨w0,hw0⟩:∃ w0,w.alloc (.map #[] 0)=w0:=⟨_,rfl⟩
 rw [hw0] at T0 ⊢
 clear hM hw0
 go_loopw [11] (fun i wr=>∃ k:Nat,k≤l.length∧i=.int .i64 k∧Hid ((l.take k).Nodup)∧Hid (Tw w wr 61 M ((l.take k).map litF))) (fun i _=>l.length - (intOf i).toNat)
 case atStart=>exact⟨0,by omega,rfl,hD (by simp),T0⟩
 case round=>
  obtain⟨k,hk,rfl,HA,HB⟩:=hrel
  clear T0
  by_cases hlt:k<l.length
  ·obtain⟨b,off,rfl,hb,hc0,hc1⟩:=zy1 HV.out k hlt
   have d0:=(HB.out.below.cell (p:=⟨b,off+k * 2,none⟩) hb).trans hc0
   have d1:=(HB.out.below.cell (p:=⟨b,off+k * 2+1,none⟩) hb).trans hc1
   have HBA:=hD (HB.out.alloc (.cells #[.string l[k].1,.int .i64 l[k].2] 61))
   have hkey:=keyF (HS.out _ (List.getElem_mem hlt)).1 (HS.out _ (List.getElem_mem hlt)).2
   have hlk:=HBA.out.set.look zg18 zi17 hkey
   obtain⟨w6,hup,hset6,hgr6⟩:=HBA.out.set.upd zg18 zi17 hkey (by simp;unfold maxLen;omega)
   have HT6:Hid (Tw w w6 61 M ((l.take (k+1)).map litF)):=by
    refine hD ⟨?_,HB.out.new,HBA.out.below.trans ((Fr.of_grown (S:=fun b=>b=M) hgr6 (fun b _ e=>by injection e with e;exact e.symm)).below HBA.out.below.size (fun b e=>by rw [e];exact HB.out.new))⟩
    rw [List.take_succ_eq_append_getElem hlt,List.map_append]
    exact hset6
   have HI:Hid ((litF l[k] ∈ (l.take k).map litF) ↔ l[k] ∈ l.take k):=hD ⟨fun h=>by
    obtain⟨x,hx,he⟩:=List.mem_map.1 h
    have h1:=List.mem_of_mem_take hx
    have h2:=zg18.inj (by rw [← he] at hkey;exact hkey) (keyF (HS.out _ h1).1 (HS.out _ h1).2)
    simp at h2;have h3:l[k]=x:=Prod.ext h2.1 h2.2;rw [h3];exact hx,fun h=>List.mem_map_of_mem h⟩
   have HY:=hD (fun h=>zx4 l k hlt h)
   have HN:=hD (fun h=>zx3 l k hlt HA.out h)
   clear hkey hset6 hgr6
   by_cases hin:l[k] ∈ l.take k
   ·rw [decide_eq_true (HI.out.2 hin)] at hlk
    have HY2:=hD (HY.out hin)
    clear hup hin
    go_wp2
    go_ret
    exact⟨by rw [HY2.out];rfl,HBA.out.below⟩
   ·rw [decide_eq_false (fun h=>hin (HI.out.1 h))] at hlk
    have HN2:=hD (HN.out hin)
    clear hin HY HN HI
    go_wp2
    go_roundw
    case rel=>exact⟨k+1,by omega,by go_num,HN2,HT6⟩
    case measure=>simp [intOf];omega
  ·obtain rfl:k=l.length:=by omega
   have HF:Hid (twiceB l=false):=hD (za7 l (by
    have:=HA.out
    rw [List.take_length] at this
    exact this))
   go_wp2
   go_ret
   exact⟨by rw [HF.out];rfl,HB.out.below⟩
end Go.Proofs.YtlmbiafloiompaaGreatDoor

namespace Go.Proofs.YtlmbiafloiompaaGreatDoor
open Go Go.RowKit Go.WideShapes Go.ChangeShapes
structure SlT (t e:TypeId) (size bytes:Nat):Prop where
 und:Tryz.prog.underlying t=some (.slice e)
 info:∃ z,(Tryz.prog.info? e).map (fun i=>(i.zero,i.size,i.bytes))=some (some z,size,bytes)∧z.cells.size=size
 pos:0<size
 small:bytes≤100
structure App (w w':World) (base:Nat) (e:TypeId) (size:Nat) (v v':Value) (n:Nat) (xs:List Value):Prop where
 own:w'.ownsRow base e size v' n xs
 fr:Fr (fun b=>v.ownBlock=some b) w w'
 at_:v'.ownBlock=v.ownBlock ∨ ∃ g,v'.ownBlock=some g∧w.heap.size≤g
 form:∃ A c,v'=.slice A n c
theorem own_ge {w:World} {base:Nat} {e:TypeId} {size n:Nat} {v:Value} {xs:List Value} (h:w.ownsRow base e size v n xs) {b:Nat} (hb:v.ownBlock=some b):base≤b∧b<w.heap.size:=by
 rcases h.2 with⟨rfl,_⟩ | ⟨g,cap,cur,rfl,hg,hh,_⟩
 ·simp [Value.ownBlock] at hb
 ·obtain rfl:g=b:=by simpa [Value.ownBlock] using hb
  exact⟨hg,(Array.getElem?_eq_some_iff.1 hh).1⟩
theorem App.below {w w':World} {base:Nat} {e:TypeId} {size:Nat} {v v':Value} {n m:Nat} {xs ys:List Value} (h:App w w' base e size v v' n xs) (ho:w.ownsRow base e size v m ys) (hb:base≤w.heap.size):Below base w w':=
 h.fr.below hb (fun k hk=>(own_ge ho hk).1)
theorem App.trans {w w' w'':World} {base:Nat} {e:TypeId} {size:Nat} {v v' v'':Value} {n m:Nat} {xs ys:List Value} (h:App w w' base e size v v' n xs) (k:App w' w'' base e size v' v'' m ys):App w w'' base e size v v'' m ys:=by
 refine⟨k.own,?_,?_,k.form⟩
 ·refine⟨k.fr.os.trans h.fr.os,k.fr.tape.trans h.fr.tape,k.fr.output.trans h.fr.output,Nat.le_trans h.fr.size k.fr.size,fun i hi hs=>(k.fr.block i (Nat.lt_of_lt_of_le hi h.fr.size) (fun hv=>?_)).trans (h.fr.block i hi hs)⟩
  rcases h.at_ with e2 | ⟨g,e2,hg⟩
  ·exact hs (e2.symm.trans hv)
  ·rw [e2] at hv
   injection hv with hv
   omega
 ·rcases k.at_ with e1 | ⟨g,e1,hg⟩
  ·rcases h.at_ with e2 | ⟨g,e2,hg⟩
   ·exact .inl (e1.trans e2)
   ·exact .inr ⟨g,e1.trans e2,hg⟩
  ·exact .inr ⟨g,e1,Nat.le_trans h.fr.size hg⟩
theorem App.refl {w:World} {base:Nat} {e:TypeId} {size:Nat} {v:Value} {n:Nat} {xs:List Value} (h:w.ownsRow base e size v n xs):App w w base e size v v n xs:=⟨h,Fr.refl _ _,.inl rfl,zl h |>.imp fun _ ⟨c,h,_⟩=>⟨c,h⟩⟩
theorem zp1 {t e:TypeId} {size bytes:Nat} (T:SlT t e size bytes) {wr:World} {base n:Nat} {v:Value} {xs:List Value} (hown:wr.ownsRow base e size v n xs) (news:List Value) (hl:news.length=size)
  (h1:∀ u ∈ news,u.oneCell'=true) (hn:n≤1000000) (hbase:base≤wr.heap.size) (ty:TypeId) :
  ∃ v' w',(Builtin.append_ #[t,t] ty #[v,.slice (some ⟨wr.heap.size,0,none⟩) 1 1]).run Tryz.prog (wr.alloc (.cells news.toArray e))=.ok v' w'∧Hid (App wr w' base e size v v' (n+1) (xs ++ news)):=by
 obtain⟨z,hi,hzs⟩:=T.info
 obtain⟨i,hi1,hz0,hz1,hz2⟩:=info_parts hi
 have hT:=T.pos
 have hsm:=T.small
 have hb:(n+1) * bytes≤140737488355328:=Nat.le_trans (Nat.mul_le_mul (show n+1≤1000001 by omega) hsm) (by decide)
 obtain⟨v',w',hr,h2,h3,_,h5⟩:=run_append_own_at (P:=Tryz.prog) (wr.alloc (.cells news.toArray e)) base t ty e i z size bytes T.und hi1 hz0 hz1 hz2 hzs T.pos v n xs
  (own_fr (S:=fun _=>False) hown ((Fr.refl _ wr).alloc _) (fun _ _ x=>x)) ⟨wr.heap.size,0,none⟩ 1 1 news (by omega) (fun j u hu=>by
   rw [add_plain,Nat.zero_add,(Box.new wr e news.toArray).cell j]
   simpa using hu) h1 (by unfold maxLen;omega) hb (by simp;omega)
 refine⟨v',w',hr,hD ⟨h2,?_,?_,zl h2 |>.imp fun _ ⟨c,h,_⟩=>⟨c,h⟩⟩⟩
 ·exact((Fr.refl (fun b=>v.ownBlock=some b) wr).alloc _).trans (Fr.of_grown h3 fun _ _ e=>e)
 ·rcases h5 with h5 | h5
  ·exact .inl h5
  ·exact .inr ⟨_,h5,by simp⟩
theorem zv {P:Program} {ops:Array Oper} {rest:List Oper} {o:Oper} {a:Act} {w:World} {Q:Exit→Act→World→Prop} {t t2:TypeId} {v u v':Value} {w':World}
  (hr:(Builtin.append_ #[t,t2] o.type #[v,u]).run P w=.ok v' w') (hgd:o.guard=none) (s x:Operand)
  (ho:o.op=.call { callee:=.builtin .append,args:=#[s,x],argTypes:=#[t,t2] }) (hs:a.eval s=v) (hx:a.eval x=u)
  (h:wpList P ops Q rest (a.put o.dst v') w'):wpList P ops Q (o :: rest) a w:=by
 refine wpList_plain hgd fun K hK=>?_
 unfold Oper.wp execOp
 simp only [ho,resolve,invoke,builtin,Sem.run_bind,Sem.run_pure,Result.andThen_ok,List.map_toArray,List.map_cons,List.map_nil,hs,hx,hr]
 exact hK _ _ h
theorem slFun:SlT 29 61 2 24:=⟨Tryz.underlying29,⟨.agg #[.string ⟨#[]⟩,.int .i64 0],by kernel_rfl,rfl⟩,by decide,by decide⟩
set_option maxRecDepth 100000 in
set_option maxHeartbeats 2000000 in
theorem zd5 (l:List (ByteArray × Int × Int)) (hm:l.length≤1000000) (v:Value) (w:World) (hv:PredsAt w v l) :
  Calls Tryz.prog 46 #[v] w fun e w'=>∃ v',e=.returned v'∧FunsAt w' v' (l.map called)∧Below w.heap.size w w':=by
 obtain⟨A,c,rfl⟩:=CellsAt.form hv
 have HV:=hD hv
 have HNIL:Hid (w.ownsRow w.heap.size 61 2 (.slice none 0 0) 0 []):=hD ⟨rfl,.inl ⟨rfl,rfl⟩⟩
 clear hv
 go_enter Tryz.func46,Tryz.ntmps46
 go_wp2
 go_loopw [3,8] (fun s i wr=>∃ (k:Nat) (vs:Value),k≤l.length∧i=.int .i64 k∧vs=s∧Hid (wr.ownsRow w.heap.size 61 2 vs k (((l.take k).map called).flatMap funC))∧Hid (Below w.heap.size w wr)) (fun _ i _=>l.length - (intOf i).toNat)
 case atStart=>exact⟨0,_,by omega,rfl,rfl,HNIL,hD (Below.refl _ w)⟩
 case round=>
  obtain⟨k,vs,hk,rfl,rfl,HO,HB⟩:=hrel
  by_cases hlt:k<l.length
  ·obtain⟨b,off,rfl,hb,hc0,hc1,hc2⟩:=zd1 HV.out k hlt
   have d0:=(HB.out.cell (p:=⟨b,off+k * 3,none⟩) hb).trans hc0
   have d1:=(HB.out.cell (p:=⟨b,off+k * 3+1,none⟩) hb).trans hc1
   have d2:=(HB.out.cell (p:=⟨b,off+k * 3+2,none⟩) hb).trans hc2
   have HT:Hid (((l.take (k+1)).map called).flatMap funC=((l.take k).map called).flatMap funC ++ [.string l[k].1,.int .i64 l[k].2.1]):=hD (by
    rw [List.take_succ_eq_append_getElem hlt,List.map_append,List.flatMap_append]
    rfl)
   clear hc0 hc1 hc2
   generalize l[k].1=s at d0 HT
   generalize l[k].2.1=n at d1 HT
   generalize l[k].2.2=m at d2
   have HSZ:=hD HB.out.size
   obtain⟨v7,w7,hr7,HA7⟩:=zp1 slFun (own_fr (S:=fun _=>False) HO.out ((Fr.refl _ wr).alloc (.cells #[.string s,.int .i64 n,.int .i64 m] 64)) (fun _ _ x=>x)) [.string s,.int .i64 n] rfl (by intro u hu;simp only [List.mem_cons,List.not_mem_nil,or_false] at hu;rcases hu with rfl | rfl <;> rfl) (by omega) (by have:=HSZ.out;simp;omega) 29
   have HB7:Hid (Below w.heap.size w w7):=hD (HB.out.trans (((Below.refl w.heap.size wr).alloc HSZ.out _).trans (HA7.out.below (own_fr (S:=fun _=>False) HO.out ((Fr.refl _ wr).alloc _) (fun _ _ x=>x)) (by have:=HSZ.out;simp;omega))))
   have HO7:Hid (w7.ownsRow w.heap.size 61 2 v7 (k+1) (((l.take (k+1)).map called).flatMap funC)):=hD (by rw [HT.out];exact HA7.out.own)
   simp only [World.size_alloc] at hr7
   have HR:=hD hr7
   clear hr7
   go_wp2_with (at_builtin;refine zv HR.out rfl _ _ rfl rfl rfl ?_)
   go_roundw
   case rel=>exact⟨k+1,_,by omega,by go_num,rfl,HO7,HB7⟩
   case measure=>simp [intOf];omega
  ·obtain rfl:k=l.length:=by omega
   have HF:Hid (FunsAt wr vs (l.map called)):=hD (by
    have h:=CellsAt.of_own HO.out (by decide)
    rw [List.take_length] at h
    unfold FunsAt
    rw [List.length_map]
    exact h)
   go_wp2
   go_ret
   exact⟨_,rfl,HF.out,HB.out⟩
end Go.Proofs.YtlmbiafloiompaaGreatDoor
