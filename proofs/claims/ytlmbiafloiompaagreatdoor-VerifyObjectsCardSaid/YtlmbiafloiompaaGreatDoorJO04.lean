/-
  10 texts in one (CodeE CodeF CodeK CodeG CodeH CodeL CodeN CodeP ObjD ObjE). Conditions: those of each theorem.
-/
import Derived.Test.YtlmbiafloiompaaGreatDoorJO01
import Derived.Test.YtlmbiafloiompaaGreatDoorJO03
import Derived.Lib.SmallJoins
import Derived.Lib.ItoaLen
import Derived.Sort.Grow
import Derived.Lib.AppendIntMem
import Derived.Lib.AtoiAllCases
import Derived.Deep.RegionHeld3
import Derived.Shelf.Strings.SlTrimAscii
import Derived.Lib.IndexBytes
import Derived.Lib.Split
import Derived.IntWalk
import Derived.Deep.QuietTactic
import Derived.BigQuiet
import Derived.Laws.Concat
import Derived.Test.YtlmbiafloiompaaGreatDoorJO02
set_option linter.unusedVariables false
set_option linter.unusedSimpArgs false
namespace Go.Proofs.YtlmbiafloiompaaGreatDoor
open Go Go.RowKit Go.WideShapes Go.ChangeShapes
structure LaidC (B:Nat) (w:World):Prop where
 tab:Lib.TabBelow Tryz.prog B w "internal/strconv.uint64pow10" .u64 Lib.pow10Tab
 syn:∃ te pe,w.cell? ⟨2,0,none⟩=some (.iface te pe)
 ran:∃ te pe,w.cell? ⟨3,0,none⟩=some (.iface te pe)
 names:NamesAt w
 len:∃ m,w.cell? ⟨1,0,none⟩=some (.int .i64 m)
 low:2<B∧3<B∧0<B∧1<B
 size:B≤w.heap.size
theorem LaidC.below {B B':Nat} {w w':World} (h:LaidC B w) (hb:Below B' w w') (hB:B≤B'):LaidC B w':=by
 have hb':=hb.mono hB
 obtain⟨te,pe,h1⟩:=h.syn
 obtain⟨tf,pf,h2⟩:=h.ran
 obtain⟨m,h3⟩:=h.len
 exact⟨h.tab.on hb',⟨te,pe,(hb'.cell (p:=⟨2,0,none⟩) h.low.1).trans h1⟩,⟨tf,pf,(hb'.cell (p:=⟨3,0,none⟩) h.low.2.1).trans h2⟩,
  h.names.below hb' h.low.2.2.1,⟨m,(hb'.cell (p:=⟨1,0,none⟩) h.low.2.2.2).trans h3⟩,h.low,Nat.le_trans h.size hb'.size⟩
theorem LaidC.up {B:Nat} {w w':World} (h:LaidC B w) (hb:Below w.heap.size w w'):LaidC B w':=h.below hb h.size
def bs (l:List UInt8):ByteArray:=⟨l.toArray⟩
theorem bs_app (a b:List UInt8):bs a ++ bs b=bs (a ++ b):=by
 unfold bs
 apply ByteArray.ext
 simp
theorem zb4 (l:List UInt8):(bs l).size=l.length:=by simp [bs,ByteArray.size]
theorem str_bs (s:ByteArray):bs s.data.toList=s:=by simp [bs]
theorem za4 (l:List UInt8):(bs l).data.toList=l:=by simp [bs]
theorem zl19 (w:World) (k:Nat) (os:Array Obj):Below w.heap.size w (Sort.grow (w.drewN k) os):=
 ⟨rfl,rfl,rfl,by simp [Sort.grow],fun j hj=>Sort.heap_grow_old (w.drewN k) os hj⟩
theorem zj6 (n:Int) (h0:-9223372036854775808≤n) (h1:n≤9223372036854775807) (w:World) {B:Nat} (hp:LaidC B w) :
  Calls Tryz.prog 134 #[.int .i64 n] w fun e w'=>e=.returned (.string (bs (Lib.itoa n)))∧Below w.heap.size w w':=by
 refine(Tryz.strconv_Itoa n h0 h1 w hp.tab.here).mono ?_
 rintro e w' ⟨rfl,k,os,rfl⟩
 exact⟨rfl,zl19 w k os⟩
def wordOf (kind n:Int):List UInt8:=
 if kind=8∧n=65535 then [45]
 else if kind=1∧16≤n then 89 :: Lib.itoa (n - 16)
 else if kind=1 ∨ kind=2 then 88 :: Lib.itoa n
 else if kind=9 then 89 :: Lib.itoa n
 else Lib.itoa n
theorem zo12 (kind n:Int) (h0:0≤n) (h1:n≤65535):(wordOf kind n).length≤22:=by
 have a:=Lib.itoa_length_le n (by omega) (by omega)
 have b:=Lib.itoa_length_le (n - 16) (by omega) (by omega)
 unfold wordOf
 repeat (first | split | (simp only [List.length_cons,List.length_nil];omega) | omega)
theorem zo9 (x:UInt8) (l:List UInt8):(⟨#[x]⟩:ByteArray) ++ bs l=bs (x :: l):=bs_app [x] l
theorem zk6 (n:Int) (h0:0≤n) (h1:n≤65535):∃ s:ByteArray,bs (Lib.itoa n)=s∧(9223372036854775807<1+s.size)=False:=by
 refine⟨_,rfl,?_⟩
 have a:=Lib.itoa_length_le n (by omega) (by omega)
 rw [zb4]
 simp
 omega
theorem word_any (kind n:Int) (h0:0≤n) (h1:n≤65535) (w:World) {B:Nat} (hp:LaidC B w) :
  Calls Tryz.prog 142 #[.int .i64 kind,.int .i64 n] w fun e w'=>e=.returned (.string (bs (wordOf kind n)))∧Below w.heap.size w w':=by
 by_cases k8:kind=8∧n=65535
 ·obtain⟨rfl,rfl⟩:=k8
  go_enter Tryz.func142,Tryz.ntmps142
  go_wp2
  go_ret
  exact⟨rfl,Below.refl _ _⟩
 ·by_cases k1:kind=1∧16≤n
  ·have hw:bs (wordOf kind n)=⟨#[89]⟩ ++ bs (Lib.itoa (n - 16)):=by rw [wordOf,if_neg k8,if_pos k1,zo9]
   have hi:=fun w (hp:LaidC B w)=>zj6 (n - 16) (by omega) (by omega) w hp
   obtain⟨s,hs,hsz⟩:=zk6 (n - 16) (by omega) (by omega)
   rw [hs] at hw hi
   rw [hw]
   have HI:=hD hi
   have HP:=hD hp
   obtain⟨rfl,k16⟩:=k1
   clear hw hi hp k8 hs
   go_enter Tryz.func142,Tryz.ntmps142
   go_wp2_with (refine(HI.out _ HP.out).mono ?_;rintro e w' ⟨rfl,hb⟩)
   go_ret
   exact⟨rfl,hb⟩
  ·have k1':¬ (kind=1∧16≤n):=k1
   by_cases k2:kind=1 ∨ kind=2
   ·have hw:bs (wordOf kind n)=⟨#[88]⟩ ++ bs (Lib.itoa n):=by rw [wordOf,if_neg k8,if_neg k1,if_pos k2,zo9]
    have hi:=fun w (hp:LaidC B w)=>zj6 n (by omega) (by omega) w hp
    obtain⟨s,hs,hsz⟩:=zk6 n (by omega) (by omega)
    rw [hs] at hw hi
    rw [hw]
    have HI:=hD hi
    have HP:=hD hp
    clear hw hi hp k8 hs
    rcases k2 with rfl | rfl
    ·have hlt:n<16:=by omega
     clear k1 k1'
     go_enter Tryz.func142,Tryz.ntmps142
     go_wp2_with (refine(HI.out _ HP.out).mono ?_;rintro e w' ⟨rfl,hb⟩)
     go_ret
     exact⟨rfl,hb⟩
    ·clear k1 k1'
     go_enter Tryz.func142,Tryz.ntmps142
     go_wp2_with (refine(HI.out _ HP.out).mono ?_;rintro e w' ⟨rfl,hb⟩)
     go_ret
     exact⟨rfl,hb⟩
   ·have e1:(kind == 1)=false:=by simp;omega
    have e2:(kind == 2)=false:=by simp;omega
    by_cases k9:kind=9
    ·have hw:bs (wordOf kind n)=⟨#[89]⟩ ++ bs (Lib.itoa n):=by rw [wordOf,if_neg k8,if_neg k1,if_neg k2,if_pos k9,zo9]
     have hi:=fun w (hp:LaidC B w)=>zj6 n (by omega) (by omega) w hp
     obtain⟨s,hs,hsz⟩:=zk6 n (by omega) (by omega)
     rw [hs] at hw hi
     rw [hw]
     have HI:=hD hi
     have HP:=hD hp
     subst k9
     clear hw hi hp k8 hs k1 k1' k2 e1 e2
     go_enter Tryz.func142,Tryz.ntmps142
     go_wp2_with (refine(HI.out _ HP.out).mono ?_;rintro e w' ⟨rfl,hb⟩)
     go_ret
     exact⟨rfl,hb⟩
    ·have e9:(kind == 9)=false:=by simp;omega
     have hw:bs (wordOf kind n)=bs (Lib.itoa n):=by rw [wordOf,if_neg k8,if_neg k1,if_neg k2,if_neg k9]
     have hi:=fun w (hp:LaidC B w)=>zj6 n (by omega) (by omega) w hp
     obtain⟨s,hs,hsz⟩:=zk6 n (by omega) (by omega)
     rw [hs] at hw hi
     rw [hw]
     have HI:=hD hi
     have HP:=hD hp
     clear hw hi hp hs k1 k1' k2 k9
     by_cases h8:kind=8
     ·have hn:(n == 65535)=false:=by simp;omega
      subst h8
      clear k8 e1 e2 e9
      go_enter Tryz.func142,Tryz.ntmps142
      go_wp2_with (refine(HI.out _ HP.out).mono ?_;rintro e w' ⟨rfl,hb⟩)
      go_ret
      exact⟨rfl,hb⟩
     ·have e8:(kind == 8)=false:=by simp;omega
      clear k8 h8
      go_enter Tryz.func142,Tryz.ntmps142
      go_wp2_with (refine(HI.out _ HP.out).mono ?_;rintro e w' ⟨rfl,hb⟩)
      go_ret
      exact⟨rfl,hb⟩
theorem zu6 (op a b c d:Int) (w:World) (hw:NamesAt w) :
  Calls Tryz.prog 88 #[insV op a b c d] w fun e w'=>e=.returned (.bool (rightB op [a,b,c,d]))∧Below w.heap.size w w':=by
 by_cases h:0≤op∧op≤26
 ·by_cases ho:opsOf op=[]
  ·exact zs20 op a b c d h ho w hw
  ·exact zt20 op a b c d h _ rfl (List.length_pos_iff.2 ho) w hw
 ·exact right_out op a b c d h w hw
def textTail (op:Int) (l:List Int):Nat→List UInt8
 | 0=>[]
 | k+1=>textTail op l k ++ 32 :: wordOf ((opsOf op).getD k 0) (l.getD k 0)
def textOf (op:Int) (l:List Int):List UInt8:=
 if rightB op l=true then(nameOf op).data.toList ++ textTail op l (opsOf op).length else []
theorem zi10 {op:Int} {l:List Int} (h:rightB op l=true):0≤op∧op≤26:=by
 rw [rightB,Bool.and_eq_true] at h
 exact of_decide_eq_true h.1
theorem zw2 {op:Int} {l:List Int} (h:rightB op l=true) (k:Nat) (hk:k<4):mayB op ((opsOf op).getD k 0) (l.getD k 0)=true:=by
 rw [rightB,Bool.and_eq_true,List.all_eq_true] at h
 exact h.2 k (List.mem_range.2 hk)
theorem may_bd {op kind n:Int} (h:mayB op kind n=true):0≤n∧n≤65535:=by
 rcases of_decide_eq_true h with⟨_,rfl⟩ | ⟨h1,h2⟩
 ·omega
 ·have a:0≤lowOf kind:=by unfold lowOf;split <;> omega
  have b:highOf kind≤1023:=by
   unfold highOf
   repeat (first | split | omega)
  omega
theorem name_len (op:Int):(nameOf op).size≤10:=by
 unfold nameOf
 split
 ·rename_i h
  have:∀ k,k<27→(nameAt k).size≤10:=by decide
  exact this _ (by omega)
 ·decide
theorem ret_str {a b:ByteArray} (h:a=b):Ending.returned (.string a)=.returned (.string b):=by rw [h]
def TxtAt (op:Int) (l:List Int) (k:Nat) (T:ByteArray):Prop:=T=bs ((nameOf op).data.toList ++ textTail op l k)∧T.size≤10+23 * k
theorem TxtAt.zero (op:Int) (l:List Int):TxtAt op l 0 (nameOf op):=by
 refine⟨?_,by have:=name_len op;omega⟩
 rw [textTail,List.append_nil,str_bs]
theorem TxtAt.step {op:Int} {l:List Int} {k:Nat} {T:ByteArray} (h:TxtAt op l k T) (hr:rightB op l=true) (hk:k<4):TxtAt op l (k+1) (T ++ (⟨#[32]⟩ ++ bs (wordOf ((opsOf op).getD k 0) (l.getD k 0)))):=by
 obtain⟨h1,h2⟩:=h
 have h3:=may_bd (zw2 hr k hk)
 have h4:=zo12 ((opsOf op).getD k 0) (l.getD k 0) h3.1 h3.2
 refine⟨?_,?_⟩
 ·rw [h1,zo9,bs_app,textTail,List.append_assoc]
 ·rw [zo9,ByteArray.size_append,zb4,List.length_cons]
  omega
set_option maxRecDepth 100000 in
theorem text_no (op a b c d:Int) (h:rightB op [a,b,c,d]=false) (w:World) {B:Nat} (hp:LaidC B w) :
  Calls Tryz.prog 112 #[insV op a b c d] w fun e w'=>e=.returned (.string (bs (textOf op [a,b,c,d])))∧Below w.heap.size w w':=by
 have ht:textOf op [a,b,c,d]=[]:=by rw [textOf,h];rfl
 have hr:=fun w (hw:NamesAt w)=>zu6 op a b c d w hw
 rw [h] at hr
 rw [ht]
 have HR:=hD hr
 have HP:=hD (hp.up (za w (.cells #[.int .i64 op,.int .i64 a,.int .i64 b,.int .i64 c,.int .i64 d] 65))).names
 have HB:=hD (za w (.cells #[.int .i64 op,.int .i64 a,.int .i64 b,.int .i64 c,.int .i64 d] 65))
 clear ht hr h hp
 unfold insV at HR ⊢
 go_enter Tryz.func112,Tryz.ntmps112
 go_wp2_with (refine(HR.out _ HP.out).mono ?_;rintro e w' ⟨rfl,hb⟩)
 go_ret
 exact⟨rfl,HB.out.trans (hb.mono HB.out.size)⟩
structure BoxAt (B B0:Nat) (op a b c d:Int) (w0 w:World):Prop where
 ins:Box w B 65 #[.int .i64 op,.int .i64 a,.int .i64 b,.int .i64 c,.int .i64 d]
 laid:LaidC B0 w
 below:Below B w0 w
theorem BoxAt.up {B B0:Nat} {op a b c d:Int} {w0 w w':World} (h:BoxAt B B0 op a b c d w0 w) (hb:Below w.heap.size w w'):BoxAt B B0 op a b c d w0 w':=
 ⟨h.ins.below hb h.ins.lt,h.laid.up hb,h.below.trans (hb.mono (Nat.le_of_lt h.ins.lt))⟩
theorem BoxAt.cell {B B0:Nat} {op a b c d:Int} {w0 w:World} (h:BoxAt B B0 op a b c d w0 w) (k:Nat) (hk:k<4):w.cell? ⟨B,1+k,none⟩=some (.int .i64 ([a,b,c,d].getD k 0)):=by
 rw [h.ins.cell (1+k)]
 match k,hk with
 | 0,_=>rfl
 | 1,_=>rfl
 | 2,_=>rfl
 | 3,_=>rfl
set_option maxRecDepth 100000 in
set_option maxHeartbeats 1000000 in
theorem text_none (op a b c d:Int) (h:rightB op [a,b,c,d]=true) (ho:opsOf op=[]) (w:World) {B:Nat} (hp:LaidC B w) :
  Calls Tryz.prog 112 #[insV op a b c d] w fun e w'=>e=.returned (.string (bs (textOf op [a,b,c,d])))∧Below w.heap.size w w':=by
 have ht:bs (textOf op [a,b,c,d])=nameOf op:=by rw [textOf,if_pos h,ho];simp [textTail,str_bs]
 have hr:=fun w (hw:NamesAt w)=>zu6 op a b c d w hw
 rw [h] at hr
 rw [ht]
 have HR:=hD hr
 have hbx:BoxAt w.heap.size B op a b c d w (w.alloc (.cells #[.int .i64 op,.int .i64 a,.int .i64 b,.int .i64 c,.int .i64 d] 65)):=⟨Box.new w _ _,hp.up (za w _),za w _⟩
 have HBX:=hD hbx
 have HN:=hD (fun w (hw:NamesAt w)=>ze4 op w hw)
 have HO:=hD (fun w=>zh3 op ho w)
 generalize nameOf op=nm at HN ⊢
 clear ht hr h hp hbx ho
 unfold insV at HR ⊢
 go_enter Tryz.func112,Tryz.ntmps112
 go_wp2_with fail
 refine(HR.out _ HBX.out.laid.names).mono ?_
 rintro e w1 ⟨rfl,hb⟩
 have hb1:=HBX.out.up hb
 have c0:=hb1.ins.cell 0
 have HB1:=hD hb1
 clear hb1 hb
 go_wp2_with fail
 refine(HN.out _ HB1.out.laid.names).mono ?_
 rintro e w' ⟨rfl,rfl⟩
 go_wp2_with fail
 refine(HO.out _).mono ?_
 rintro e w' ⟨rfl,rfl⟩
 go_wp2
 go_loop [3,16] (fun v i=>v=.string nm∧i=.int .i64 0) (fun _ _=>0)
 case atStart=>exact⟨rfl,rfl⟩
 case round=>
  obtain⟨rfl,rfl⟩:=hrel
  go_wp2
  go_ret
  exact⟨rfl,HB1.out.below⟩
set_option maxRecDepth 100000 in
set_option maxHeartbeats 2000000 in
theorem text_some (op a b c d:Int) (h:rightB op [a,b,c,d]=true) (n:Nat) (hn:(opsOf op).length=n) (hn0:0<n) (w:World) {B:Nat} (hp:LaidC B w) :
  Calls Tryz.prog 112 #[insV op a b c d] w fun e w'=>e=.returned (.string (bs (textOf op [a,b,c,d])))∧Below w.heap.size w w':=by
 have ht:bs (textOf op [a,b,c,d])=bs ((nameOf op).data.toList ++ textTail op [a,b,c,d] n):=by rw [textOf,if_pos h,hn]
 have hr:=fun w (hw:NamesAt w)=>zu6 op a b c d w hw
 rw [h] at hr
 rw [ht]
 have HR:=hD hr
 have hbx:BoxAt w.heap.size B op a b c d w (w.alloc (.cells #[.int .i64 op,.int .i64 a,.int .i64 b,.int .i64 c,.int .i64 d] 65)):=⟨Box.new w _ _,hp.up (za w _),za w _⟩
 have HBX:=hD hbx
 have HN:=hD (fun w (hw:NamesAt w)=>ze4 op w hw)
 have HO:=hD (fun w=>zi3 op n hn hn0 w)
 have hn4:n≤4:=by have:=zv1 op;omega
 have HH:=hD h
 have HZ:=hD (TxtAt.zero op [a,b,c,d])
 have HLEN:=hD hn
 have HWORD:=hD (fun(k:Nat) (hk:k<4) w (hp:LaidC B w)=>word_any ((opsOf op).getD k 0) ([a,b,c,d].getD k 0) (may_bd (zw2 h k hk)).1 (may_bd (zw2 h k hk)).2 w hp)
 have HSZ:=hD (fun(k:Nat) (hk:k<4)=>zo12 ((opsOf op).getD k 0) ([a,b,c,d].getD k 0) (may_bd (zw2 h k hk)).1 (may_bd (zw2 h k hk)).2)
 obtain⟨nm,hnm⟩:∃ nm,nameOf op=nm:=⟨_,rfl⟩
 rw [hnm] at HN HZ
 clear ht hr h hp hbx hn hnm
 unfold insV at HR ⊢
 go_enter Tryz.func112,Tryz.ntmps112
 go_wp2_with fail
 refine(HR.out _ HBX.out.laid.names).mono ?_
 rintro e w1 ⟨rfl,hb⟩
 have hb1:=HBX.out.up hb
 have c0:=hb1.ins.cell 0
 have HB1:=hD hb1
 clear hb1 hb
 go_wp2_with fail
 refine(HN.out _ HB1.out.laid.names).mono ?_
 rintro e w' ⟨rfl,rfl⟩
 go_wp2_with fail
 refine(HO.out _).mono ?_
 rintro e w2 ⟨rfl,hw2⟩
 have hkc:∀ k,k<n→w2.cell? ⟨w1.heap.size,k,none⟩=some (.int .i64 ((opsOf op).getD k 0)):=fun k hk=>by
  subst hw2
  rw [(Box.new w1 3 ((opsOf op).map (Value.int .i64)).toArray).cell k]
  have hk':k<(opsOf op).length:=by rw [HLEN.out];exact hk
  simp [List.getD_eq_getElem?_getD,hk']
 have hb12:Below w1.heap.size w1 w2:=by rw [← hw2];exact za w1 _
 have hb2:=HB1.out.up hb12
 have hlt1:w1.heap.size<w2.heap.size:=by rw [← hw2];simp
 have HKC:=hD hkc
 have HB2:=hD hb2
 have HW2:=hD hw2
 have HLT1:=hD hlt1
 clear hkc hb2 hw2 c0 hlt1 hb12
 go_wp2
 go_loopw [3,16] (fun v i wr=>∃ (k:Nat) (T:ByteArray),k≤n∧i=.int .i64 k∧v=.string T∧TxtAt op [a,b,c,d] k T∧BoxAt w.heap.size B op a b c d w wr∧Below w2.heap.size w2 wr) (fun _ i _=>n - (intOf i).toNat)
 case atStart=>exact⟨0,nm,by omega,rfl,rfl,HZ.out,HB2.out,Below.refl _ _⟩
 case round=>
  obtain⟨k,T,hk,rfl,rfl,ht,hbx,hbl⟩:=hrel
  by_cases hlt:k<n
  ·have hk4:k<4:=by omega
   have hkc:=(hbl.cell (p:=⟨w1.heap.size,k,none⟩) HLT1.out).trans (HKC.out k hlt)
   have hac:=hbx.cell k hk4
   have hwd:=HWORD.out k hk4 wr hbx.laid
   have hst:=ht.step HH.out hk4
   have hts:=ht.2
   have hws:=HSZ.out k hk4
   rw [← zb4] at hws
   generalize (opsOf op).getD k 0=kd at hkc hwd hst hws
   generalize [a,b,c,d].getD k 0=x at hac hwd hst hws
   generalize bs (wordOf kd x)=ws at hwd hst hws
   have z1:(9223372036854775807<1+ws.size)=False:=by simp;omega
   have z2:(9223372036854775807<T.size+(1+ws.size))=False:=by simp;omega
   have HWD:=hD hwd
   have HST:=hD hst
   have HBX2:=hD hbx
   have HBL:=hD hbl
   clear hwd hst hbx hbl ht hts hws
   go_wp2_with fail
   refine HWD.out.mono ?_
   rintro e w3 ⟨rfl,hb3⟩
   have HBX3:=hD (HBX2.out.up hb3)
   have HBL3:=hD (HBL.out.trans (hb3.mono HBL.out.size))
   clear hb3 hkc hac
   go_wp2
   go_roundw
   case rel=>exact⟨k+1,_,by omega,by go_num,rfl,HST.out,HBX3.out,HBL3.out⟩
   case measure=>simp [intOf];omega
  ·obtain rfl:k=n:=by omega
   have HT:=hD ht.1
   have HBX2:=hD hbx
   clear ht hbx hbl
   go_wp2
   go_ret
   exact⟨ret_str HT.out,HBX2.out.below⟩
theorem zb19 (op a b c d:Int) (w:World) {B:Nat} (hp:LaidC B w) :
  Calls Tryz.prog 112 #[insV op a b c d] w fun e w'=>e=.returned (.string (bs (textOf op [a,b,c,d])))∧Below w.heap.size w w':=by
 cases h:rightB op [a,b,c,d]
 ·exact text_no op a b c d h w hp
 ·by_cases ho:opsOf op=[]
  ·exact text_none op a b c d h ho w hp
  ·exact text_some op a b c d h _ rfl (List.length_pos_iff.2 ho) w hp
set_option maxHeartbeats 8000000 in
theorem zl2 (op:Int) (w:World) :
  Calls Tryz.prog 17 #[.int .i64 op] w (NewInts w (opsOf op)):=by
 by_cases h:0≤op∧op≤26
 ·obtain⟨h0,h1⟩:=h
  have hk:op=0 ∨ op=1 ∨ op=2 ∨ op=3 ∨ op=4 ∨ op=5 ∨ op=6 ∨ op=7 ∨ op=8 ∨ op=9 ∨ op=10 ∨ op=11 ∨ op=12 ∨ op=13 ∨ op=14 ∨ op=15 ∨ op=16 ∨ op=17 ∨ op=18 ∨ op=19 ∨ op=20 ∨ op=21 ∨ op=22 ∨ op=23 ∨ op=24 ∨ op=25 ∨ op=26:=by omega
  clear h0 h1
  rcases hk with rfl | rfl | rfl | rfl | rfl | rfl | rfl | rfl | rfl | rfl | rfl | rfl | rfl | rfl | rfl | rfl | rfl | rfl | rfl | rfl | rfl | rfl | rfl | rfl | rfl | rfl | rfl
  all_goals
   go_enter Tryz.func17,Tryz.ntmps17
   go_wp2
   go_ret
   first
    | exact .inl ⟨rfl,rfl,rfl⟩
    | exact .inr ⟨by decide,rfl,rfl⟩
 ·have he:opsOf op=[]:=by
   unfold opsOf
   repeat rw [if_neg (by omega)]
  rw [he]
  have h1:(op == 1)=false:=by simp;omega
  have h2:(op == 2)=false:=by simp;omega
  have h10:(op == 10)=false:=by simp;omega
  have h11:(op == 11)=false:=by simp;omega
  have h3:(op == 3)=false:=by simp;omega
  have h12:(op == 12)=false:=by simp;omega
  have h4:(op == 4)=false:=by simp;omega
  have h13:(op == 13)=false:=by simp;omega
  have h5:(op == 5)=false:=by simp;omega
  have h14:(op == 14)=false:=by simp;omega
  have h6:(op == 6)=false:=by simp;omega
  have h7:(op == 7)=false:=by simp;omega
  have h8:(op == 8)=false:=by simp;omega
  have h9:(op == 9)=false:=by simp;omega
  have h15:(op == 15)=false:=by simp;omega
  have h17:(op == 17)=false:=by simp;omega
  have h18:(op == 18)=false:=by simp;omega
  have h20:(op == 20)=false:=by simp;omega
  have h21:(op == 21)=false:=by simp;omega
  have h24:(op == 24)=false:=by simp;omega
  have h25:(op == 25)=false:=by simp;omega
  have h26:(op == 26)=false:=by simp;omega
  clear h he
  go_enter Tryz.func17,Tryz.ntmps17
  go_wp2
  go_ret
  exact .inl ⟨rfl,rfl,rfl⟩
theorem zb11 (op:Int) (h:opsOf op=[]) (w:World):Calls Tryz.prog 17 #[.int .i64 op] w fun e w'=>e=.returned (.slice none 0 0)∧w=w':=
 (zl2 op w).mono fun e w' hn=>by
  rcases hn with⟨_,h1,h2⟩ | ⟨h0,_⟩
  ·exact⟨h1,h2.symm⟩
  ·exact absurd h h0
theorem zc11 (op:Int) (n:Nat) (hn:(opsOf op).length=n) (h:0<n) (w:World) :
  Calls Tryz.prog 17 #[.int .i64 op] w fun e w'=>e=.returned (.slice (some ⟨w.heap.size,0,none⟩) n n)∧w.alloc (.cells ((opsOf op).map (Value.int .i64)).toArray 3)=w':=
 (zl2 op w).mono fun e w' hn'=>by
  rcases hn' with⟨h0,_⟩ | ⟨_,h1,h2⟩
  ·rw [h0] at hn
   simp at hn
   omega
  ·rw [hn] at h1
   exact⟨h1,h2.symm⟩
theorem zx19 (kind:Int) (h0:0≤kind) (h1:kind≤9):kind=0 ∨ kind=1 ∨ kind=2 ∨ kind=3 ∨ kind=4 ∨ kind=5 ∨ kind=6 ∨ kind=7 ∨ kind=8 ∨ kind=9:=by omega
set_option maxHeartbeats 4000000 in
theorem rmay_any (op kind n:Int) (h0:0≤kind) (h1:kind≤9) (h8:op=26→kind=8) (w:World) :
  Calls Tryz.prog 103 #[.int .i64 op,.int .i64 kind,.int .i64 n] w fun e w'=>e=.returned (.bool (mayB op kind n))∧Below w.heap.size w w':=by
 by_cases hs:op=26∧n=65535
 ·obtain⟨rfl,rfl⟩:=hs
  have hk:=h8 rfl
  subst hk
  clear h0 h1 h8
  go_enter Tryz.func103,Tryz.ntmps103
  go_wp2
  go_ret
  exact⟨rfl,Below.refl _ _⟩
 ·have hm:mayB op kind n=decide (lowOf kind≤n∧n≤highOf kind):=by
   unfold mayB
   congr 1
   rw [eq_iff_iff]
   exact⟨fun h=>h.resolve_left hs,.inr⟩
  rw [hm]
  have hg:kind=8→(op == 26)=false ∨ (n == 65535)=false:=fun e=>by
   by_cases h:op=26
   ·right
    simpa using fun x=>hs ⟨h,x⟩
   ·left
    simpa using h
  clear hm
  rcases zx19 kind h0 h1 with rfl | rfl | rfl | rfl | rfl | rfl | rfl | rfl | rfl | rfl
  case inr.inr.inr.inr.inr.inr.inr.inr.inl=>
   rcases hg rfl with hx | hx
   all_goals
    clear hs hg h0 h1 h8
    go_enter Tryz.func103,Tryz.ntmps103
    go_wp2
    all_goals
     go_ret
     refine⟨ret_b ?_,by first | exact Below.refl _ _ | exact za w _⟩
     rw [Bool.eq_iff_iff]
     simp [lowOf,highOf]
     try omega
  all_goals
   clear hs hg h0 h1 h8
   go_enter Tryz.func103,Tryz.ntmps103
   go_wp2
   all_goals
    go_ret
    refine⟨ret_b ?_,by first | exact Below.refl _ _ | exact za w _⟩
    rw [Bool.eq_iff_iff]
    simp [lowOf,highOf]
    try omega
def numOf (kind:Int) (w:List UInt8):Option Int:=
 if w=[45] then some 65535
 else match Lib.atoiAll (Lib.trimLeftS w [88,89]) with
  | .ok v=>some (if kind=1∧Lib.hasPrefix w [89]=true then wrap64 (v+16) else v)
  | _=>none
def NumRes (w:World) (r:Option Int) (e:Ending) (w':World):Prop:=
 ∃ x,e=.returned (.tuple #[.int .i64 x,.bool r.isSome])∧(∀ v,r=some v→x=v)∧Below w.heap.size w w'
theorem zo {B:Nat} {w w':World} (h:Below B w w') (n:Nat):Below B w (w'.drewN n):=⟨h.os,h.tape,h.output,h.size,h.block⟩
theorem zd13 {w w':World} {r:Option Int} {x:Int} (h:r=some x) (hb:Below w.heap.size w w'):NumRes w r (.returned (.tuple #[.int .i64 x,.bool true])) w':=by
 subst h
 exact⟨x,rfl,fun v hv=>Option.some.inj hv,hb⟩
theorem zq18 {w w':World} {r:Option Int} {x:Int} (h:r=none) (hb:Below w.heap.size w w'):NumRes w r (.returned (.tuple #[.int .i64 x,.bool false])) w':=by
 subst h
 exact⟨x,rfl,(fun v hv=>by cases hv),hb⟩
theorem zn2 {w w2:World} {t:TypeId} (h:w2=w ∨ ∃ x,w2=Lib.bytesWorld w t x):Below w.heap.size w w2:=by
 rcases h with rfl | ⟨x,rfl⟩
 ·exact Below.refl _ _
 ·exact Lib.bytesWorld_below _ _ _
theorem trim_any (s:ByteArray) (w:World) :
  Calls Tryz.prog 141 #[.string s,.string ⟨#[88,89]⟩] w fun e w'=>e=.returned (.string (bs (Lib.trimLeftS s.data.toList [88,89])))∧Below w.heap.size w w':=
 Any.strings_TrimLeft_laid Tryz.lays161 (by kernel_rfl) s ⟨#[88,89]⟩ w (by decide) (ascii_of_all (by decide))
theorem trim_len (l:List UInt8):(Lib.trimLeftS l [88,89]).length≤l.length:=(List.dropWhile_sublist _).length_le
theorem za12 (s:ByteArray) (w:World) :
  Calls Tryz.prog 38 #[.string s,.string ⟨#[89]⟩] w fun e w'=>e=.returned (.bool (Lib.hasPrefix s.data.toList [89]))∧w=w':=
 (Tryz.strings_HasPrefix s ⟨#[89]⟩ w).mono fun e w' h=>⟨h.1,h.2.symm⟩
def wordsOf (s:List UInt8):List (List UInt8):=Lib.splitK [32] 0 (min 6 (s.length+1) - 1) s
def numsUpto (f:Nat→Option Int):Nat→Option (List Int)
  | 0=>some []
  | k+1=>match numsUpto f k with
    | none=>none
    | some L=>match f k with
      | none=>none
      | some x=>some (L ++ [x])
def numAt (op:Int) (ws:List (List UInt8)) (k:Nat):Option Int:=numOf ((opsOf op).getD k 0) (ws.getD (k+1) [])
def padded (L:List Int):List Int:=[L.getD 0 0,L.getD 1 0,L.getD 2 0,L.getD 3 0]
def parseP (s:List UInt8):Option (Int × List Int):=
  if namedOf (bs ((wordsOf s).getD 0 []))<0 ∨ (wordsOf s).length - 1≠(opsOf (namedOf (bs ((wordsOf s).getD 0 [])))).length then none
  else match numsUpto (numAt (namedOf (bs ((wordsOf s).getD 0 []))) (wordsOf s)) (opsOf (namedOf (bs ((wordsOf s).getD 0 [])))).length with
    | none=>none
    | some L=>if textOf (namedOf (bs ((wordsOf s).getD 0 []))) (padded L)=s then some (namedOf (bs ((wordsOf s).getD 0 [])),padded L) else none
theorem nums_none {f:Nat→Option Int} {k:Nat} (h:numsUpto f k=none):∀ n,k≤n→numsUpto f n=none:=by
  intro n
  induction n with
  | zero=>
    intro hk
    obtain rfl:k=0:=by omega
    exact h
  | succ n ih=>
    intro hk
    by_cases e:k=n+1
    · subst e;exact h
    · rw [numsUpto,ih (by omega)]
theorem zw9 {f:Nat→Option Int} {k:Nat} {L:List Int} {x:Int} (h:numsUpto f k=some L) (hx:f k=some x):numsUpto f (k+1)=some (L ++ [x]):=by
  rw [numsUpto,h]
  simp only [hx]
theorem zr18 {f:Nat→Option Int} {k:Nat} {L:List Int} (h:numsUpto f k=some L) (hx:f k=none):numsUpto f (k+1)=none:=by
  rw [numsUpto,h]
  simp only [hx]
theorem nums_all {f:Nat→Option Int} {g:Nat→Int}:∀ n,(∀ k,k<n→f k=some (g k))→numsUpto f n=some ((List.range n).map g):=by
  intro n
  induction n with
  | zero=>intro _;rfl
  | succ n ih=>
    intro h
    rw [zw9 (ih fun k hk=>h k (by omega)) (h n (by omega)),List.range_succ,List.map_append]
    rfl
theorem nums_len {f:Nat→Option Int}:∀ {n:Nat} {L:List Int},numsUpto f n=some L→L.length=n:=by
  intro n
  induction n with
  | zero=>intro L h;injection h with h;subst h;rfl
  | succ n ih=>
    intro L h
    cases h1:numsUpto f n with
    | none=>rw [numsUpto,h1] at h;cases h
    | some M=>
      cases h2:f n with
      | none=>rw [zr18 h1 h2] at h;cases h
      | some x=>
        rw [zw9 h1 h2] at h
        injection h with h
        subst h
        simp [ih h1]
/-! ### Cutting at blanks -/
def noBlank (w:List UInt8):Prop:=∀ c ∈ w,c≠32
theorem zr14:∀ {w:List UInt8} (r:List UInt8),noBlank w→Lib.index (w ++ 32 :: r) [32]=(w.length:Int):=by
  intro w r
  rw [Lib.index_one]
  induction w with
  | nil=>intro _;simp [Lib.indexByte]
  | cons a w ih=>
    intro h
    have ha:(a == 32)=false:=beq_eq_false_iff_ne.2 (h a (by simp))
    have hw:=ih (fun c hc=>h c (by simp [hc]))
    rw [List.cons_append,Lib.indexByte,ha,hw]
    have:((w.length:Int) == -1)=false:=by rw [beq_eq_false_iff_ne];omega
    simp [this]
theorem zy19 {w:List UInt8} (h:noBlank w):Lib.index w [32] = -1:=by
  rw [Lib.index_one]
  induction w with
  | nil=>rfl
  | cons a w ih=>
    have ha:(a == 32)=false:=beq_eq_false_iff_ne.2 (h a (by simp))
    have hw:=ih (fun c hc=>h c (by simp [hc]))
    rw [Lib.indexByte,ha,hw]
    rfl
theorem zg12:∀ (ws:List (List UInt8)) (w0:List UInt8) (k:Nat),noBlank w0→(∀ w ∈ ws,noBlank w)→ws.length≤k→Lib.splitK [32] 0 k (w0 ++ ws.flatMap (32 :: ·))=w0 :: ws:=by
  intro ws
  induction ws with
  | nil=>
    intro w0 k h0 _ _
    have hm:(Lib.index (w0 ++ ([]:List (List UInt8)).flatMap (32 :: ·)) [32] == -1)=true:=by simp [zy19 h0]
    cases k with
    | zero=>simp [Lib.splitK]
    | succ k=>rw [Lib.splitK,if_pos hm];simp
  | cons w ws ih=>
    intro w0 k h0 hws hk
    cases k with
    | zero=>simp at hk
    | succ k=>
      have hi:Lib.index (w0 ++ (w :: ws).flatMap (32 :: ·)) [32]=(w0.length:Int):=by
        rw [List.flatMap_cons,List.cons_append]
        exact zr14 _ h0
      have hm:¬ (Lib.index (w0 ++ (w :: ws).flatMap (32 :: ·)) [32] == -1)=true:=by
        rw [hi]
        intro e
        have:=beq_iff_eq.1 e
        omega
      rw [Lib.splitK,if_neg hm,hi]
      have e1:((w0.length:Int)).toNat=w0.length:=by omega
      rw [e1,Nat.add_zero,List.take_left]
      have e2:(w0 ++ (w :: ws).flatMap (32 :: ·)).drop (w0.length + [(32:UInt8)].length)=w ++ ws.flatMap (32 :: ·):=by
        rw [← List.drop_drop,List.drop_left,List.flatMap_cons]
        rfl
      rw [e2,ih w k (hws w (by simp)) (fun x hx=>hws x (by simp [hx])) (by simpa using hk)]
theorem zv10 (op:Int) (l:List Int) (k:Nat):textTail op l k=((List.range k).map fun j=>wordOf ((opsOf op).getD j 0) (l.getD j 0)).flatMap (32 :: ·):=by
  induction k with
  | zero=>rfl
  | succ k ih=>
    rw [List.range_succ,List.map_append,List.flatMap_append,← ih]
    simp [textTail]
/-! ### Words and numbers undo each other -/
def validB (kind n:Int):Bool:=decide ((kind=8∧n=65535) ∨ (lowOf kind≤n∧n≤highOf kind))
def backB (kind n:Int):Bool:=!validB kind n || (numOf kind (wordOf kind n) == some n && !(wordOf kind n).contains 32)
theorem backs:((List.range 10).all fun k=>(List.range 1025).all fun n=>backB (k:Int) (n:Int))=true:=by decide +kernel
theorem back_far:backB 8 65535=true:=by decide +kernel
theorem za16 {kind n:Int} (h0:0≤kind) (h9:kind≤9) (h:validB kind n=true):numOf kind (wordOf kind n)=some n∧noBlank (wordOf kind n):=by
  have hb:backB kind n=true:=by
    rcases of_decide_eq_true h with⟨rfl,rfl⟩ | ⟨h1,h2⟩
    · exact back_far
    · have a:0≤lowOf kind:=by unfold lowOf;split <;> omega
      have b:highOf kind≤1023:=by
        unfold highOf
        repeat (first | split | omega)
      obtain⟨K,rfl⟩:=Int.eq_ofNat_of_zero_le h0
      obtain⟨N,rfl⟩:=Int.eq_ofNat_of_zero_le (show 0≤n by omega)
      have h3:=List.all_eq_true.1 backs K (List.mem_range.2 (by omega))
      exact List.all_eq_true.1 h3 N (List.mem_range.2 (by omega))
  rw [backB,h,Bool.not_true,Bool.false_or,Bool.and_eq_true] at hb
  refine⟨beq_iff_eq.1 hb.1,fun c hc e=>?_⟩
  subst e
  have:=hb.2
  simp [hc] at this
theorem zo7:∀ k,k<27→namedOf (nameAt k)=(k:Int):=by decide +kernel
theorem zq16:namedOf (bs []) = -1:=by decide +kernel
theorem zg8:∀ k,k<27→((nameAt k).data.toList.contains 32)=false:=by decide
theorem zr9 {op:Int} {k:Nat} {x:Int} (hk:k<(opsOf op).length) (h:mayB op ((opsOf op).getD k 0) x=true):validB ((opsOf op).getD k 0) x=true:=by
  rcases of_decide_eq_true h with⟨h1,h2⟩ | h2
  · subst h1
    refine decide_eq_true (.inl ⟨?_,h2⟩)
    have h4:(opsOf 26).length=4:=rfl
    rw [h4] at hk
    match k,hk with
    | 0,_=>rfl
    | 1,_=>rfl
    | 2,_=>rfl
    | 3,_=>rfl
  · exact decide_eq_true (.inr h2)
theorem zk18 {op:Int} {k:Nat} {x:Int} (hk4:k<4) (hk:(opsOf op).length≤k) (h:mayB op ((opsOf op).getD k 0) x=true):x=0:=by
  have hg:(opsOf op).getD k 0=0:=by rw [List.getD_eq_getElem?_getD,List.getElem?_eq_none hk];rfl
  rw [hg] at h
  rcases of_decide_eq_true h with⟨h1,h2⟩ | ⟨h2,h3⟩
  · subst h1
    have h4:(opsOf 26).length=4:=rfl
    omega
  · have a:lowOf 0=0:=rfl
    have b:highOf 0=0:=rfl
    omega
theorem padded_eq {a b c d:Int} {L:List Int} (h:∀ k,k<4→L.getD k 0=[a,b,c,d].getD k 0):padded L=[a,b,c,d]:=by
  have h0:=h 0 (by omega)
  have h1:=h 1 (by omega)
  have h2:=h 2 (by omega)
  have h3:=h 3 (by omega)
  unfold padded
  rw [h0,h1,h2,h3]
  rfl
theorem zk20 {op a b c d:Int} (h:rightB op [a,b,c,d]=true):parseP (textOf op [a,b,c,d])=some (op,[a,b,c,d]):=by
  have hr:=zi10 h
  obtain⟨K,rfl⟩:=Int.eq_ofNat_of_zero_le hr.1
  have hK:K<27:=by omega
  have hname:nameOf (K:Int)=nameAt K:=by rw [nameOf,if_pos hr];rfl
  have hfew:=zv1 (K:Int)
  obtain⟨n,hn⟩:∃ n,(opsOf (K:Int)).length=n:=⟨_,rfl⟩
  have hval:∀ k,k<n→numOf ((opsOf (K:Int)).getD k 0) (wordOf ((opsOf (K:Int)).getD k 0) ([a,b,c,d].getD k 0))=some ([a,b,c,d].getD k 0)∧noBlank (wordOf ((opsOf (K:Int)).getD k 0) ([a,b,c,d].getD k 0)):=fun k hk=>by
    have hkd:=zg4 (K:Int) k
    exact za16 hkd.1 hkd.2 (zr9 (by omega) (zw2 h k (by omega)))
  have htext:textOf (K:Int) [a,b,c,d]=(nameAt K).data.toList ++ ((List.range n).map fun j=>wordOf ((opsOf (K:Int)).getD j 0) ([a,b,c,d].getD j 0)).flatMap (32 :: ·):=by
    rw [textOf,if_pos h,hname,zv10,hn]
  have hnb:noBlank (nameAt K).data.toList:=fun c hc e=>by
    subst e
    have:=zg8 K hK
    simp [hc] at this
  have hlen:n≤(textOf (K:Int) [a,b,c,d]).length:=by
    rw [htext,List.length_append]
    have:∀ ws:List (List UInt8),ws.length≤(ws.flatMap (32 :: ·)).length:=by
      intro ws
      induction ws with
      | nil=>simp
      | cons w ws ih=>rw [List.flatMap_cons,List.length_append,List.length_cons,List.length_cons];omega
    have:=this ((List.range n).map fun j=>wordOf ((opsOf (K:Int)).getD j 0) ([a,b,c,d].getD j 0))
    rw [List.length_map,List.length_range] at this
    omega
  have hws:wordsOf (textOf (K:Int) [a,b,c,d])=(nameAt K).data.toList :: ((List.range n).map fun j=>wordOf ((opsOf (K:Int)).getD j 0) ([a,b,c,d].getD j 0)):=by
    unfold wordsOf
    obtain⟨m,hm⟩:∃ m,min 6 ((textOf (K:Int) [a,b,c,d]).length+1) - 1=m:=⟨_,rfl⟩
    have hm2:n≤m:=by omega
    rw [hm,htext]
    refine zg12 _ _ m hnb ?_ (by simpa using hm2)
    intro w hw
    obtain⟨j,hj,rfl⟩:=List.mem_map.1 hw
    exact(hval j (List.mem_range.1 hj)).2
  have hnm:namedOf (bs ((wordsOf (textOf (K:Int) [a,b,c,d])).getD 0 []))=(K:Int):=by
    rw [hws,List.getD_cons_zero,str_bs,zo7 K hK]
  have hna:∀ k,k<n→numAt (K:Int) (wordsOf (textOf (K:Int) [a,b,c,d])) k=some ([a,b,c,d].getD k 0):=fun k hk=>by
    unfold numAt
    rw [hws,List.getD_cons_succ]
    have:((List.range n).map fun j=>wordOf ((opsOf (K:Int)).getD j 0) ([a,b,c,d].getD j 0)).getD k []=wordOf ((opsOf (K:Int)).getD k 0) ([a,b,c,d].getD k 0):=by
      rw [List.getD_eq_getElem?_getD,List.getElem?_map,List.getElem?_range hk];rfl
    rw [this]
    exact(hval k hk).1
  have hnums:=nums_all n hna
  have hpad:padded ((List.range n).map fun k=>[a,b,c,d].getD k 0)=[a,b,c,d]:=padded_eq fun k hk=>by
    by_cases hkn:k<n
    · rw [List.getD_eq_getElem?_getD,List.getElem?_map,List.getElem?_range hkn];rfl
    · have h0:=zk18 hk (by omega) (zw2 h k hk)
      rw [h0,List.getD_eq_getElem?_getD,List.getElem?_map,List.getElem?_eq_none (by simp;omega)];rfl
  have hwl:(wordsOf (textOf (K:Int) [a,b,c,d])).length - 1=n:=by rw [hws];simp
  unfold parseP
  rw [hnm,if_neg (by rw [hwl,hn];omega),hn,hnums]
  simp only [hpad,if_true]
theorem words_nil:wordsOf []=[[]]:=rfl
theorem zy9 {s:List UInt8} {op:Int} {l:List Int} (h:parseP s=some (op,l)):textOf op l=s∧rightB op l=true∧∃ L,l=padded L:=by
  unfold parseP at h
  split at h
  · cases h
  · rename_i hc
    cases hx:numsUpto (numAt (namedOf (bs ((wordsOf s).getD 0 []))) (wordsOf s)) (opsOf (namedOf (bs ((wordsOf s).getD 0 [])))).length with
    | none=>rw [hx] at h;cases h
    | some L=>
      rw [hx] at h
      simp only at h
      split at h
      · rename_i ht
        injection h with h
        injection h with h1 h2
        rw [h1] at ht
        subst h2
        refine⟨ht,?_,L,rfl⟩
        cases hr:rightB op (padded L) with
        | true=>rfl
        | false=>
          exfalso
          rw [textOf,hr] at ht
          have hs:s=[]:=ht.symm
          subst hs
          apply hc
          left
          rw [words_nil]
          show namedOf (bs [])<0
          rw [zq16]
          decide
      · cases h
structure RBox (B:Nat) (op a b c d:Int) (w0 w:World):Prop where
 ins:Box w B 54 #[.int .i64 op,.int .i64 a,.int .i64 b,.int .i64 c,.int .i64 d]
 below:Below B w0 w
theorem RBox.up {B:Nat} {op a b c d:Int} {w0 w w':World} (h:RBox B op a b c d w0 w) (hb:Below w.heap.size w w'):RBox B op a b c d w0 w':=
 ⟨h.ins.below hb h.ins.lt,h.below.trans (hb.mono (Nat.le_of_lt h.ins.lt))⟩
theorem RBox.drewN {B:Nat} {op a b c d:Int} {w0 w:World} (h:RBox B op a b c d w0 w) (n:Nat):RBox B op a b c d w0 (w.drewN n):=
 ⟨h.ins,⟨h.below.os,h.below.tape,h.below.output,h.below.size,h.below.block⟩⟩
theorem RBox.cell {B:Nat} {op a b c d:Int} {w0 w:World} (h:RBox B op a b c d w0 w) (k:Nat) (hk:k<4):w.cell? ⟨B,1+k,none⟩=some (.int .i64 ([a,b,c,d].getD k 0)):=by
 rw [h.ins.cell (1+k)]
 match k,hk with
 | 0,_=>rfl
 | 1,_=>rfl
 | 2,_=>rfl
 | 3,_=>rfl
theorem zw20 (op a b c d:Int) (h:¬ (0≤op∧op≤26)) (w:World) :
  Calls Tryz.prog 62 #[insV op a b c d] w fun e w'=>e=.returned (.bool (rightB op [a,b,c,d]))∧Below w.heap.size w w':=by
 have hr:rightB op [a,b,c,d]=false:=by rw [rightB,decide_eq_false h];rfl
 rw [hr]
 clear hr
 unfold insV
 by_cases h0:op<0
 ·clear h
  go_enter Tryz.func62,Tryz.ntmps62
  go_wp2
  go_ret
  exact⟨rfl,za w _⟩
 ·have h1:26<op:=by omega
  clear h
  go_enter Tryz.func62,Tryz.ntmps62
  go_wp2
  go_ret
  exact⟨rfl,za w _⟩
theorem ops_26 (op:Int) (k:Nat) (h:k<(opsOf op).length):op=26→(opsOf op).getD k 0=8:=by
 rintro rfl
 have h4:(opsOf 26).length=4:=rfl
 rw [h4] at h
 match k,h with
 | 0,_=>rfl
 | 1,_=>rfl
 | 2,_=>rfl
 | 3,_=>rfl
theorem zl18 (op x:Int) (k:Nat) (hk4:k<4) (hk:(opsOf op).length≤k):mayB op ((opsOf op).getD k 0) x=decide (x=0):=by
 rw [Bool.eq_iff_iff]
 constructor
 ·intro h
  simp [zk18 hk4 hk h]
 ·intro h
  have hx:x=0:=by simpa using h
  subst hx
  have hg:(opsOf op).getD k 0=0:=by rw [List.getD_eq_getElem?_getD,List.getElem?_eq_none hk];rfl
  rw [hg]
  exact decide_eq_true (.inr ⟨by decide,by decide⟩)
theorem zc19 {w0 w':World} {g gk k j:Nat} {x y z:Value} (h:Below w0.heap.size w0 w') (hg:g<w0.heap.size) (hk:gk<w0.heap.size)
  (h0:w0.cell? ⟨g,0,none⟩=some x∧w0.cell? ⟨gk,k,none⟩=some y∧w0.cell? ⟨g,j,none⟩=some z) :
  w'.cell? ⟨g,0,none⟩=some x∧w'.cell? ⟨gk,k,none⟩=some y∧w'.cell? ⟨g,j,none⟩=some z:=
 ⟨(h.cell (p:=⟨g,0,none⟩) hg).trans h0.1,(h.cell (p:=⟨gk,k,none⟩) hk).trans h0.2.1,(h.cell (p:=⟨g,j,none⟩) hg).trans h0.2.2⟩
theorem bel_dr (w0:World) (n:Nat) {w6:World} (h:Below (w0.drewN n).heap.size (w0.drewN n) w6):Below w0.heap.size w0 w6:=zm4 (m:=n) h
set_option maxRecDepth 100000 in
set_option maxHeartbeats 20000000 in
theorem zb17 (op a b c d:Int) (h:0≤op∧op≤26) (ho:opsOf op=[]) (w:World) :
  Calls Tryz.prog 62 #[insV op a b c d] w fun e w'=>e=.returned (.bool (rightB op [a,b,c,d]))∧Below w.heap.size w w':=by
 have HALL:=hD (zt6 op a b c d h)
 have HNOT:=hD (zv6 op a b c d)
 have HKND:=hD (zg4 op)
 have hbx:RBox w.heap.size op a b c d w (w.alloc (.cells #[.int .i64 op,.int .i64 a,.int .i64 b,.int .i64 c,.int .i64 d] 54)):=⟨Box.new w _ _,za w _⟩
 have HBX:=hD hbx
 have h0:0≤op:=h.1
 have h26:op≤26:=h.2
 clear h hbx
 have HO:=hD (fun w=>zb11 op ho w)
 have HLEN:Hid ((opsOf op).length=0):=hD (by rw [ho];rfl)
 clear ho
 unfold insV
 go_enter Tryz.func62,Tryz.ntmps62
 go_wp2_with fail
 refine(HO.out _).mono ?_
 rintro e w3 ⟨rfl,hw3⟩
 rw [hw3] at HBX
 have HB3:=HBX
 clear hw3
 go_wp2
 go_loopw [4] (fun i wr=>∃ k:Nat,k≤4∧i=.int .i64 k∧RBox w.heap.size op a b c d w wr∧Below w3.heap.size w3 wr∧∀ j,j<k→mayB op ((opsOf op).getD j 0) ([a,b,c,d].getD j 0)=true) (fun i _=>4 - (intOf i).toNat)
 case atStart=>exact⟨0,by omega,rfl,HB3.out,Below.refl _ _,fun j hj=>absurd hj (by omega)⟩
 case round=>
  obtain⟨k,hk,rfl,hbx,hbl,hall⟩:=hrel
  have HA:=hD hall
  have HBX2:=hD hbx
  have HBL:=hD hbl
  clear hall hbx hbl
  by_cases hlt:k<4
  ·have hac:=HBX2.out.cell k hlt
   have hc0:wr.cell? ⟨w.heap.size,0,none⟩=some (.int .i64 op):=HBX2.out.ins.cell 0
   have HN2:=hD (HNOT.out k hlt)
   have d1:decide ((k:Int)<(0:Int))=false:=by rw [decide_eq_false_iff_not];omega
   have d2:decide ((0:Int)≤(k:Int))=true:=by rw [decide_eq_true_eq];omega
   have d6:decide (0≤k)=true:=by rw [decide_eq_true_eq];omega
   have d7:decide (k<0)=false:=by rw [decide_eq_false_iff_not];omega
   have hmz:=zl18 op ([a,b,c,d].getD k 0) k hlt (by rw [HLEN.out];omega)
   obtain⟨x,hx⟩:∃ x,[a,b,c,d].getD k 0=x:=⟨_,rfl⟩
   rw [hx] at hmz hac HN2
   have HX:=hD hx
   have HMZ:=hD hmz
   clear hx hmz
   by_cases hx0:x=0
   ·have HMT:Hid (mayB op ((opsOf op).getD k 0) x=true):=hD (by rw [HMZ.out];simpa using hx0)
    subst hx0
    go_wp2
    go_quiet (fail)
    go_wp2
    go_roundw
    case rel=>exact⟨k+1,by omega,by go_num,HBX2.out.drewN _,zo HBL.out _,fun j hj=>by
     by_cases e:j=k
     ·subst e
      rw [HX.out]
      exact HMT.out
     ·exact HA.out j (by omega)⟩
    case measure=>simp [intOf];omega
   ·have hxn:(x != 0)=true:=by simpa using hx0
    have HMF:Hid (rightB op [a,b,c,d]=false):=hD (HN2.out (by rw [HMZ.out];simpa using hx0))
    clear hx0
    go_wp2
    go_quiet (fail)
    go_wp2
    go_ret
    exact⟨ret_b HMF.out.symm,zo HBX2.out.below _⟩
  ·obtain rfl:k=4:=by omega
   have hr:=HALL.out HA.out
   have HR:=hD hr
   clear hr
   go_wp2
   go_ret
   exact⟨ret_b HR.out.symm,HBX2.out.below⟩
set_option maxRecDepth 100000 in
set_option maxHeartbeats 20000000 in
theorem zc17 (op a b c d:Int) (h:0≤op∧op≤26) (n:Nat) (hn:(opsOf op).length=n) (hn0:0<n) (w:World) :
  Calls Tryz.prog 62 #[insV op a b c d] w fun e w'=>e=.returned (.bool (rightB op [a,b,c,d]))∧Below w.heap.size w w':=by
 have HALL:=hD (zt6 op a b c d h)
 have HNOT:=hD (zv6 op a b c d)
 have HKND:=hD (zg4 op)
 have hbx:RBox w.heap.size op a b c d w (w.alloc (.cells #[.int .i64 op,.int .i64 a,.int .i64 b,.int .i64 c,.int .i64 d] 54)):=⟨Box.new w _ _,za w _⟩
 have HBX:=hD hbx
 have h0:0≤op:=h.1
 have h26:op≤26:=h.2
 clear h hbx
 have HO:=hD (fun w=>zc11 op n hn hn0 w)
 have HLEN:=hD hn
 have hn4:n≤4:=by have:=zv1 op;omega
 have HRM:=hD (fun kind n h0 h1 h8 w=>rmay_any op kind n h0 h1 h8 w)
 clear hn hn0
 unfold insV
 go_enter Tryz.func62,Tryz.ntmps62
 go_wp2_with fail
 refine(HO.out _).mono ?_
 rintro e w3 ⟨rfl,hw3⟩
 have hkc:∀ k,k<n→w3.cell? ⟨w.heap.size+1,k,none⟩=some (.int .i64 ((opsOf op).getD k 0)):=fun k hk=>by
  have hb:=Box.new (w.alloc (.cells #[.int .i64 op,.int .i64 a,.int .i64 b,.int .i64 c,.int .i64 d] 54)) 3 ((opsOf op).map (Value.int .i64)).toArray
  rw [hw3,show(w.alloc (.cells #[.int .i64 op,.int .i64 a,.int .i64 b,.int .i64 c,.int .i64 d] 54)).heap.size=w.heap.size+1 by simp] at hb
  rw [hb.cell k]
  have hk':k<(opsOf op).length:=by rw [HLEN.out];exact hk
  simp [List.getD_eq_getElem?_getD,hk']
 have hsz:w.heap.size+1<w3.heap.size:=by rw [← hw3];simp
 have hb3:RBox w.heap.size op a b c d w w3:=by rw [← hw3];exact HBX.out.up (za _ _)
 have HB3:=hD hb3
 have HKC:=hD hkc
 have HSZ:=hD hsz
 rw [show(w.alloc (.cells #[.int .i64 op,.int .i64 a,.int .i64 b,.int .i64 c,.int .i64 d] 54)).heap.size=w.heap.size+1 by simp]
 clear hw3 hkc hsz hb3
 go_wp2
 go_loopw [4] (fun i wr=>∃ k:Nat,k≤4∧i=.int .i64 k∧RBox w.heap.size op a b c d w wr∧Below w3.heap.size w3 wr∧∀ j,j<k→mayB op ((opsOf op).getD j 0) ([a,b,c,d].getD j 0)=true) (fun i _=>4 - (intOf i).toNat)
 case atStart=>exact⟨0,by omega,rfl,HB3.out,Below.refl _ _,fun j hj=>absurd hj (by omega)⟩
 case round=>
  obtain⟨k,hk,rfl,hbx,hbl,hall⟩:=hrel
  have HA:=hD hall
  have HBX2:=hD hbx
  have HBL:=hD hbl
  clear hall hbx hbl
  by_cases hlt:k<4
  ·have hac:=HBX2.out.cell k hlt
   have hc0:wr.cell? ⟨w.heap.size,0,none⟩=some (.int .i64 op):=HBX2.out.ins.cell 0
   have HN2:=hD (HNOT.out k hlt)
   by_cases hkn:k<n
   ·have hkc:=(HBL.out.cell (p:=⟨w.heap.size+1,k,none⟩) HSZ.out).trans (HKC.out k hkn)
    have hkd:=HKND.out k
    have hm:=HRM.out ((opsOf op).getD k 0) ([a,b,c,d].getD k 0) hkd.1 hkd.2 (ops_26 op k (by rw [HLEN.out];exact hkn))
    have d1:decide ((k:Int)<(n:Int))=true:=by simp;omega
    have d2:decide ((n:Int)≤(k:Int))=false:=by simp;omega
    have d6:decide (n≤k)=false:=by rw [decide_eq_false_iff_not];omega
    have d7:decide (k<n)=true:=by rw [decide_eq_true_eq];omega
    have d3:(0:Int)≤(k:Int):=by omega
    have d4:(k:Int)<(n:Int):=by omega
    have d5:(k:Int)<4:=by omega
    obtain⟨x,hx⟩:∃ x,[a,b,c,d].getD k 0=x:=⟨_,rfl⟩
    obtain⟨y,hy⟩:∃ y,(opsOf op).getD k 0=y:=⟨_,rfl⟩
    rw [hx] at hac
    rw [hy] at hkc
    rw [hx,hy] at hm HN2
    have HX:=hD hx
    have HY:=hD hy
    have HM:=hD hm
    have hS0:=And.intro hc0 (And.intro hkc hac)
    have hg1:w.heap.size<wr.heap.size:=HBX2.out.ins.lt
    have hg2:w.heap.size+1<wr.heap.size:=World.block_lt_of_cell? wr _ hkc
    clear hx hy hkd hm
    cases hB:mayB op y x
    ·have hm2:=HM.out
     rw [hB] at hm2
     have HM2:=hD hm2
     have HN3:=hD (HN2.out hB)
     clear hm2 hB HN2 HM
     go_wp2
     clear hc0 hkc hac
     refine wp_region_held_drew (S:=(fun w'=>w'.cell? ⟨w.heap.size,0,none⟩=some (.int .i64 op)∧w'.cell? ⟨w.heap.size+1,k,none⟩=some (.int .i64 y)∧w'.cell? ⟨w.heap.size,1+k,none⟩=some (.int .i64 x))) (by kernel_rfl) ?_ (fun hHeld=>?_)
     ·((try dsimp only);first | with_reducible assumption | go_keep)
     refine tHH (i:=0) (v:=?_) rfl ?_ ?_
     rotate_left 1
     ·(intro w' hSw;(try dsimp only at hSw);go_simp;try with_reducible rfl)
     try simp only [List.getElem_toArray,List.getElem_cons_zero,Act.put,List.setIfInBounds_toArray,List.set_cons_zero,List.set_cons_succ]
     have st:StH [1,2,3,4,5,6,7,8,9,10,11,12,13,14]:=trivial
     iterate 14
      refine tHL st (v:=?_) rfl ?_ ?_
      rotate_left 1
      ·(intro w' hSw;(try dsimp only at hSw);go_simp;try with_reducible rfl)
      replace st:=st.tl
      try simp only [qA,qB,qC,Act.put,qD,qE,qF]
     refine wH1 (i:=15) (by kernel_rfl) rfl fun K hK=>?_
     go_simp
     go_at_call 103;refine(HM2.out _).mono ?_;rintro e w6 ⟨rfl,hb6⟩;have HB6:=hD (bel_dr wr 1 hb6);have hS1:=zc19 HB6.out hg1 hg2 hS0;have HS0:=hD hS0;clear hb6 hS0
     refine hK.out _ _ ?_ (fun hHeld=>?_)
     ·((try dsimp only);first | with_reducible assumption | go_keep)
     clear hK K
     try simp only [qA,qB,qC,Act.put,qD,qE,qF]
     have st:StH [16,17,18]:=trivial
     iterate 3
      refine tHL st (v:=?_) rfl ?_ ?_
      rotate_left 1
      ·(intro w' hSw;(try dsimp only at hSw);go_simp;try with_reducible rfl)
      replace st:=st.tl
      try simp only [qA,qB,qC,Act.put,qD,qE,qF]
     refine wpAnyH_take (i:=19) (v:=undef) rfl (by kernel_rfl) (by kernel_rfl) (by kernel_rfl) (fun _ _ _ h=>h) (Or.inr ⟨by rfl,rfl⟩) (by assumption) ?_
     try simp only [qA,qB,qC,Act.put,qD,qE,qF]
     refine wpAnyH_take (i:=20) (v:=undef) rfl (by kernel_rfl) (by kernel_rfl) (by kernel_rfl) (fun _ _ _ h=>h) (Or.inr ⟨by rfl,rfl⟩) (by assumption) ?_
     try simp only [qA,qB,qC,Act.put,qD,qE,qF]
     refine wpAnyH_take (i:=21) (v:=undef) rfl (by kernel_rfl) (by kernel_rfl) (by kernel_rfl) (fun _ _ _ h=>h) (Or.inr ⟨by rfl,rfl⟩) (by assumption) ?_
     try simp only [qA,qB,qC,Act.put,qD,qE,qF]
     refine wpAnyH_take (i:=22) (v:=undef) rfl (by kernel_rfl) (by kernel_rfl) (by kernel_rfl) (fun _ _ _ h=>h) (Or.inr ⟨by rfl,rfl⟩) (by assumption) ?_
     try simp only [qA,qB,qC,Act.put,qD,qE,qF]
     refine wpAnyH_take (i:=23) (v:=undef) rfl (by kernel_rfl) (by kernel_rfl) (by kernel_rfl) (fun _ _ _ h=>h) (Or.inr ⟨by rfl,rfl⟩) (by assumption) ?_
     try simp only [qA,qB,qC,Act.put,qD,qE,qF]
     refine wpAnyH_take (i:=24) (v:=undef) rfl (by kernel_rfl) (by kernel_rfl) (by kernel_rfl) (fun _ _ _ h=>h) (Or.inr ⟨by rfl,rfl⟩) (by assumption) ?_
     try simp only [qA,qB,qC,Act.put,qD,qE,qF]
     refine wpAnyH_take (i:=25) (v:=undef) rfl (by kernel_rfl) (by kernel_rfl) (by kernel_rfl) (fun _ _ _ h=>h) (Or.inr ⟨by rfl,rfl⟩) (by assumption) ?_
     try simp only [qA,qB,qC,Act.put,qD,qE,qF]
     refine wpAnyH_take (i:=26) (v:=undef) rfl (by kernel_rfl) (by kernel_rfl) (by kernel_rfl) (fun _ _ _ h=>h) (Or.inr ⟨by rfl,rfl⟩) (by assumption) ?_
     try simp only [qA,qB,qC,Act.put,qD,qE,qF]
     refine wpAnyH_take (i:=27) (v:=undef) rfl (by kernel_rfl) (by kernel_rfl) (by kernel_rfl) (fun _ _ _ h=>h) (Or.inr ⟨by rfl,rfl⟩) (by assumption) ?_
     try simp only [qA,qB,qC,Act.put,qD,qE,qF]
     refine wpAnyH_take (i:=28) (v:=undef) rfl (by kernel_rfl) (by kernel_rfl) (by kernel_rfl) (fun _ _ _ h=>h) (Or.inr ⟨by rfl,rfl⟩) (by assumption) ?_
     try simp only [qA,qB,qC,Act.put,qD,qE,qF]
     refine wpAnyH_take (i:=29) (v:=undef) rfl (by kernel_rfl) (by kernel_rfl) (by kernel_rfl) (fun _ _ _ h=>h) (Or.inr ⟨by rfl,rfl⟩) (by assumption) ?_
     try simp only [qA,qB,qC,Act.put,qD,qE,qF]
     refine tHH (i:=30) (v:=?_) rfl ?_ ?_
     rotate_left 1
     ·(intro w' hSw;(try dsimp only at hSw);go_simp;try with_reducible rfl)
     try simp only [qA,qB,qC,Act.put,qD,qE,qF]
     refine wpAnyH_done (by kernel_rfl) ?_ _
     clear HS0
     go_wp2
     go_ret
     exact⟨ret_b HN3.out.symm,HBX2.out.below.trans (HB6.out.mono (Nat.le_of_lt hg1))⟩
    ·have hm2:=HM.out
     rw [hB] at hm2
     have HM2:=hD hm2
     have HBT:=hD hB
     clear hm2 hB HN2 HM
     go_wp2
     clear hc0 hkc hac
     refine wp_region_held_drew (S:=(fun w'=>w'.cell? ⟨w.heap.size,0,none⟩=some (.int .i64 op)∧w'.cell? ⟨w.heap.size+1,k,none⟩=some (.int .i64 y)∧w'.cell? ⟨w.heap.size,1+k,none⟩=some (.int .i64 x))) (by kernel_rfl) ?_ (fun hHeld=>?_)
     ·((try dsimp only);first | with_reducible assumption | go_keep)
     refine tHH (i:=0) (v:=?_) rfl ?_ ?_
     rotate_left 1
     ·(intro w' hSw;(try dsimp only at hSw);go_simp;try with_reducible rfl)
     try simp only [List.getElem_toArray,List.getElem_cons_zero,Act.put,List.setIfInBounds_toArray,List.set_cons_zero,List.set_cons_succ]
     have st:StH [1,2,3,4,5,6,7,8,9,10,11,12,13,14]:=trivial
     iterate 14
      refine tHL st (v:=?_) rfl ?_ ?_
      rotate_left 1
      ·(intro w' hSw;(try dsimp only at hSw);go_simp;try with_reducible rfl)
      replace st:=st.tl
      try simp only [qA,qB,qC,Act.put,qD,qE,qF]
     refine wH1 (i:=15) (by kernel_rfl) rfl fun K hK=>?_
     go_simp
     go_at_call 103;refine(HM2.out _).mono ?_;rintro e w6 ⟨rfl,hb6⟩;have HB6:=hD (bel_dr wr 1 hb6);have hS1:=zc19 HB6.out hg1 hg2 hS0;have HS0:=hD hS0;clear hb6 hS0
     refine hK.out _ _ ?_ (fun hHeld=>?_)
     ·((try dsimp only);first | with_reducible assumption | go_keep)
     clear hK K
     try simp only [qA,qB,qC,Act.put,qD,qE,qF]
     have st:StH [16,17,18,19,20,21,22,23]:=trivial
     iterate 8
      refine tHL st (v:=?_) rfl ?_ ?_
      rotate_left 1
      ·(intro w' hSw;(try dsimp only at hSw);go_simp;try with_reducible rfl)
      replace st:=st.tl
      try simp only [qA,qB,qC,Act.put,qD,qE,qF]
     refine wpAnyH_take (i:=24) (v:=undef) rfl (by kernel_rfl) (by kernel_rfl) (by kernel_rfl) (fun _ _ _ h=>h) (Or.inr ⟨by rfl,rfl⟩) (by assumption) ?_
     try simp only [qA,qB,qC,Act.put,qD,qE,qF]
     refine wpAnyH_take (i:=25) (v:=undef) rfl (by kernel_rfl) (by kernel_rfl) (by kernel_rfl) (fun _ _ _ h=>h) (Or.inr ⟨by rfl,rfl⟩) (by assumption) ?_
     try simp only [qA,qB,qC,Act.put,qD,qE,qF]
     refine wpAnyH_take (i:=26) (v:=undef) rfl (by kernel_rfl) (by kernel_rfl) (by kernel_rfl) (fun _ _ _ h=>h) (Or.inr ⟨by rfl,rfl⟩) (by assumption) ?_
     try simp only [qA,qB,qC,Act.put,qD,qE,qF]
     refine wpAnyH_take (i:=27) (v:=undef) rfl (by kernel_rfl) (by kernel_rfl) (by kernel_rfl) (fun _ _ _ h=>h) (Or.inr ⟨by rfl,rfl⟩) (by assumption) ?_
     try simp only [qA,qB,qC,Act.put,qD,qE,qF]
     refine wpAnyH_take (i:=28) (v:=undef) rfl (by kernel_rfl) (by kernel_rfl) (by kernel_rfl) (fun _ _ _ h=>h) (Or.inr ⟨by rfl,rfl⟩) (by assumption) ?_
     try simp only [qA,qB,qC,Act.put,qD,qE,qF]
     have st:StH [29,30]:=trivial
     iterate 2
      refine tHL st (v:=?_) rfl ?_ ?_
      rotate_left 1
      ·(intro w' hSw;(try dsimp only at hSw);go_simp;try with_reducible rfl)
      replace st:=st.tl
      try simp only [qA,qB,qC,Act.put,qD,qE,qF]
     refine wpAnyH_done (by kernel_rfl) ?_ _
     clear HS0
     go_wp2
     go_roundw
     case rel=>exact⟨k+1,by omega,by go_num,HBX2.out.up HB6.out,HBL.out.trans (HB6.out.mono HBL.out.size),fun j hj=>by
      by_cases e:j=k
      ·subst e
       rw [HX.out,HY.out]
       exact HBT.out
      ·exact HA.out j (by omega)⟩
     case measure=>simp [intOf];omega
   ·have d1:decide ((k:Int)<(n:Int))=false:=by rw [decide_eq_false_iff_not];omega
    have d2:decide ((n:Int)≤(k:Int))=true:=by rw [decide_eq_true_eq];omega
    have d6:decide (n≤k)=true:=by rw [decide_eq_true_eq];omega
    have d7:decide (k<n)=false:=by rw [decide_eq_false_iff_not];omega
    have hmz:=zl18 op ([a,b,c,d].getD k 0) k hlt (by rw [HLEN.out];omega)
    obtain⟨x,hx⟩:∃ x,[a,b,c,d].getD k 0=x:=⟨_,rfl⟩
    rw [hx] at hmz hac HN2
    have HX:=hD hx
    have HMZ:=hD hmz
    clear hx hmz
    by_cases hx0:x=0
    ·have HMT:Hid (mayB op ((opsOf op).getD k 0) x=true):=hD (by rw [HMZ.out];simpa using hx0)
     subst hx0
     go_wp2
     go_quiet (fail)
     go_wp2
     go_roundw
     case rel=>exact⟨k+1,by omega,by go_num,HBX2.out.drewN _,zo HBL.out _,fun j hj=>by
      by_cases e:j=k
      ·subst e
       rw [HX.out]
       exact HMT.out
      ·exact HA.out j (by omega)⟩
     case measure=>simp [intOf];omega
    ·have hxn:(x != 0)=true:=by simpa using hx0
     have HMF:Hid (rightB op [a,b,c,d]=false):=hD (HN2.out (by rw [HMZ.out];simpa using hx0))
     clear hx0
     go_wp2
     go_quiet (fail)
     go_wp2
     go_ret
     exact⟨ret_b HMF.out.symm,zo HBX2.out.below _⟩
  ·obtain rfl:k=4:=by omega
   have hr:=HALL.out HA.out
   have HR:=hD hr
   clear hr
   go_wp2
   go_ret
   exact⟨ret_b HR.out.symm,HBX2.out.below⟩
theorem zv20 (op a b c d:Int) (w:World) :
  Calls Tryz.prog 62 #[insV op a b c d] w fun e w'=>e=.returned (.bool (rightB op [a,b,c,d]))∧Below w.heap.size w w':=by
 by_cases h:0≤op∧op≤26
 ·by_cases ho:opsOf op=[]
  ·exact zb17 op a b c d h ho w
  ·exact zc17 op a b c d h _ rfl (List.length_pos_iff.2 ho) w
 ·exact zw20 op a b c d h w
theorem there_any (A1 A2 A3 A4:Option Addr) (a c1 f c2 p c3 c c4:Nat) (kind n:Int) (w:World) :
  Calls Tryz.prog 89 #[.agg #[.slice A1 a c1,.slice A2 f c2,.slice A3 p c3,.slice A4 c c4],.int .i64 kind,.int .i64 n] w fun e w'=>e=.returned (.bool (thereB a f p c kind n))∧Below w.heap.size w w':=by
 have HB:=hD (za w (.cells #[.slice A1 a c1,.slice A2 f c2,.slice A3 p c3,.slice A4 c c4] 35))
 by_cases h3:kind=3
 ·subst h3
  go_enter Tryz.func89,Tryz.ntmps89
  go_wp2_with (go_at_call 86;refine(zt2 _ _ _).mono ?_;rintro e w' ⟨rfl,rfl⟩)
  go_ret
  exact⟨ret_b (by simp [thereB]),HB.out⟩
 have h3':(kind == 3)=false:=by simpa using h3
 by_cases h4:kind=4
 ·subst h4
  go_enter Tryz.func89,Tryz.ntmps89
  go_wp2_with (go_at_call 86;refine(zt2 _ _ _).mono ?_;rintro e w' ⟨rfl,rfl⟩)
  go_ret
  exact⟨ret_b (by simp [thereB]),HB.out⟩
 have h4':(kind == 4)=false:=by simpa using h4
 by_cases h7:kind=7
 ·subst h7
  go_enter Tryz.func89,Tryz.ntmps89
  go_wp2_with (go_at_call 86;refine(zt2 _ _ _).mono ?_;rintro e w' ⟨rfl,rfl⟩)
  go_ret
  exact⟨ret_b (by simp [thereB]),HB.out⟩
 have h7':(kind == 7)=false:=by simpa using h7
 by_cases h8:kind=8
 ·subst h8
  by_cases hn:n=65535
  ·subst hn
   go_enter Tryz.func89,Tryz.ntmps89
   go_wp2_with (go_at_call 86;refine(zt2 _ _ _).mono ?_;rintro e w' ⟨rfl,rfl⟩)
   go_ret
   exact⟨rfl,HB.out⟩
  ·have hn':(n == 65535)=false:=by simpa using hn
   have he:thereB a f p c 8 n=decide (0≤n∧n<(c:Int)):=by
    show decide (n=65535 ∨ (0≤n∧n<(c:Int)))=_
    rw [Bool.eq_iff_iff]
    simp [hn]
   rw [he]
   clear he
   go_enter Tryz.func89,Tryz.ntmps89
   go_wp2_with (go_at_call 86;refine(zt2 _ _ _).mono ?_;rintro e w' ⟨rfl,rfl⟩)
   go_ret
   exact⟨ret_b (by simp),HB.out⟩
 have h8':(kind == 8)=false:=by simpa using h8
 have he:thereB a f p c kind n=true:=by
  unfold thereB
  rw [if_neg h3,if_neg h4,if_neg h7,if_neg h8]
 rw [he]
 clear he
 go_enter Tryz.func89,Tryz.ntmps89
 go_wp2
 go_ret
 exact⟨rfl,HB.out⟩
structure Ck (w w3 wr:World) (g2 g3:Nat) (va vf vp vc:Value) (i:Ins):Prop where
 ob:Box w3 g2 35 #[va,vf,vp,vc]
 ins:Box w3 g3 65 #[.int .i64 i.1,.int .i64 i.2.1,.int .i64 i.2.2.1,.int .i64 i.2.2.2.1,.int .i64 i.2.2.2.2]
 new:w.heap.size≤w3.heap.size
 old:Below w.heap.size w w3
 below:Below w3.heap.size w3 wr
theorem Ck.up {w w3 wr w':World} {g2 g3:Nat} {va vf vp vc:Value} {i:Ins} (h:Ck w w3 wr g2 g3 va vf vp vc i) (hb:Below wr.heap.size wr w'):Ck w w3 w' g2 g3 va vf vp vc i:=
 ⟨h.ob,h.ins,h.new,h.old,h.below.trans (hb.mono h.below.size)⟩
theorem Ck.all {w w3 wr:World} {g2 g3:Nat} {va vf vp vc:Value} {i:Ins} (h:Ck w w3 wr g2 g3 va vf vp vc i):Below w.heap.size w wr:=h.old.trans (h.below.mono h.new)
theorem Ck.obAt {w w3 wr:World} {g2 g3:Nat} {va vf vp vc:Value} {i:Ins} (h:Ck w w3 wr g2 g3 va vf vp vc i):Box wr g2 35 #[va,vf,vp,vc]:=h.ob.below h.below h.ob.lt
theorem Ck.insAt {w w3 wr:World} {g2 g3:Nat} {va vf vp vc:Value} {i:Ins} (h:Ck w w3 wr g2 g3 va vf vp vc i):Box wr g3 65 #[.int .i64 i.1,.int .i64 i.2.1,.int .i64 i.2.2.1,.int .i64 i.2.2.2.1,.int .i64 i.2.2.2.2]:=h.ins.below h.below h.ins.lt
theorem Ck.arg {w w3 wr:World} {g2 g3:Nat} {va vf vp vc:Value} {i:Ins} (h:Ck w w3 wr g2 g3 va vf vp vc i) (k:Nat) (hk:k<4):wr.cell? ⟨g3,1+k,none⟩=some (.int .i64 ((argOf i).getD k 0)):=by
 rw [h.insAt.cell (1+k)]
 match k,hk with
 | 0,_=>rfl
 | 1,_=>rfl
 | 2,_=>rfl
 | 3,_=>rfl
theorem ck_start (w:World) (va vf vp vc:Value) (i:Ins):Ck w ((w.alloc (.cells #[va,vf,vp,vc] 35)).alloc (.cells #[.int .i64 i.1,.int .i64 i.2.1,.int .i64 i.2.2.1,.int .i64 i.2.2.2.1,.int .i64 i.2.2.2.2] 65))
  ((w.alloc (.cells #[va,vf,vp,vc] 35)).alloc (.cells #[.int .i64 i.1,.int .i64 i.2.1,.int .i64 i.2.2.1,.int .i64 i.2.2.2.1,.int .i64 i.2.2.2.2] 65)) w.heap.size (w.heap.size+1) va vf vp vc i:=by
 refine⟨(Box.new w _ _).alloc _,?_,by simp;omega,za1 w _ _,Below.refl _ _⟩
 have h:=Box.new (w.alloc (.cells #[va,vf,vp,vc] 35)) 65 #[.int .i64 i.1,.int .i64 i.2.1,.int .i64 i.2.2.1,.int .i64 i.2.2.2.1,.int .i64 i.2.2.2.2]
 rw [World.size_alloc] at h
 exact h
theorem five_up {w0 w':World} {g2 g3 k:Nat} {a b c d e:Value} (h:Below w0.heap.size w0 w') (h2:g2<w0.heap.size) (h3:g3<w0.heap.size)
  (h0:(w0.cell? ⟨g2,0,none⟩=some a∧w0.cell? ⟨g2,1,none⟩=some b)∧(w0.cell? ⟨g2,2,none⟩=some c∧w0.cell? ⟨g2,3,none⟩=some d)∧w0.cell? ⟨g3,k,none⟩=some e) :
  (w'.cell? ⟨g2,0,none⟩=some a∧w'.cell? ⟨g2,1,none⟩=some b)∧(w'.cell? ⟨g2,2,none⟩=some c∧w'.cell? ⟨g2,3,none⟩=some d)∧w'.cell? ⟨g3,k,none⟩=some e:=
 ⟨⟨(h.cell (p:=⟨g2,0,none⟩) h2).trans h0.1.1,(h.cell (p:=⟨g2,1,none⟩) h2).trans h0.1.2⟩,⟨(h.cell (p:=⟨g2,2,none⟩) h2).trans h0.2.1.1,(h.cell (p:=⟨g2,3,none⟩) h2).trans h0.2.1.2⟩,(h.cell (p:=⟨g3,k,none⟩) h3).trans h0.2.2⟩
theorem bdrew0 (W:World) (n:Nat):Below W.heap.size W (W.drewN n):=⟨rfl,rfl,rfl,Nat.le_refl _,fun _ _=>rfl⟩
theorem zl6 (n:Nat) (P:Nat→Bool):(List.range n).all P=true ↔ ∀ j,j<n→P j=true:=by
 simp [List.all_eq_true]
set_option maxRecDepth 100000 in
set_option maxHeartbeats 8000000 in
theorem zy10 (A1 A2 A3 A4:Option Addr) (a c1 f c2 p c3 c c4:Nat) (i:Ins) (w:World) (hw:NamesAt w) :
  Calls Tryz.prog 50 #[.agg #[.slice A1 a c1,.slice A2 f c2,.slice A3 p c3,.slice A4 c c4],.agg #[.int .i64 i.1,.int .i64 i.2.1,.int .i64 i.2.2.1,.int .i64 i.2.2.2.1,.int .i64 i.2.2.2.2]] w
   fun e w'=>e=.returned (.int .i64 (insErr a f p c i))∧Below w.heap.size w w':=by
 have K0:=hD (ck_start w (.slice A1 a c1) (.slice A2 f c2) (.slice A3 p c3) (.slice A4 c c4) i)
 have HW:=hD hw
 have HRI:=hD (fun w hw=>zu6 i.1 i.2.1 i.2.2.1 i.2.2.2.1 i.2.2.2.2 w hw)
 have HIE:Hid (insErr a f p c i=if ¬ (0≤i.1∧i.1≤26) then 8 else if rightB i.1 (argOf i)=false then 9 else if (List.range (opsOf i.1).length).all (fun k=>thereB a f p c ((opsOf i.1).getD k 0) ((argOf i).getD k 0)) then 0 else 9):=hD rfl
 have HARG:Hid (argOf i=[i.2.1,i.2.2.1,i.2.2.2.1,i.2.2.2.2]):=hD rfl
 generalize insErr a f p c i=ie at HIE
 have HCARG:=hD (fun w3 wr g2 g3 (h:Ck w w3 wr g2 g3 (.slice A1 a c1) (.slice A2 f c2) (.slice A3 p c3) (.slice A4 c c4) i) k hk=>h.arg k hk)
 have HCINS:=hD (fun w3 wr g2 g3 (h:Ck w w3 wr g2 g3 (.slice A1 a c1) (.slice A2 f c2) (.slice A3 p c3) (.slice A4 c c4) i)=>h.insAt)
 unfold insV at HRI
 clear hw
 by_cases hr:0≤i.1∧i.1≤26
 ·obtain⟨m,hm⟩:=Int.eq_ofNat_of_zero_le hr.1
  have hne:=zf4 m (by omega)
  have hnm:nameOf i.1=nameAt m:=by rw [hm];rw [nameOf,if_pos (by omega)];rfl
  have HNAME:=hD (fun w hw=>hnm ▸ ze4 i.1 w hw)
  obtain⟨nm,hnmx⟩:∃ nm,nameAt m=nm:=⟨_,rfl⟩
  rw [hnmx] at hne HNAME
  have HOPN:=hD (fun(h:opsOf i.1=[]) w=>zh3 i.1 h w)
  have HOPS:=hD (fun n hn h0 w=>zi3 i.1 n hn h0 w)
  have HFEW:=hD (zv1 i.1)
  cases hB:rightB i.1 (argOf i)
  ·have HX:Hid (ie=9):=hD (by rw [HIE.out,if_neg (by omega),if_pos hB])
   rw [HARG.out] at hB
   rw [hB] at HRI
   clear hB hm hnm hnmx hr
   go_enter Tryz.func50,Tryz.ntmps50
   go_wp2_with (first
    | (go_at_call 87;refine(HNAME.out _ (HW.out.below (za1 w _ _) HW.out.lt)).mono ?_;rintro e w' ⟨rfl,rfl⟩)
    | (go_at_call 88;refine(HRI.out _ (HW.out.below (za1 w _ _) HW.out.lt)).mono ?_;rintro e w4 ⟨rfl,hb4⟩;have HK4:=hD (K0.out.up hb4);clear hb4))
   go_ret
   exact⟨by rw [HX.out];rfl,HK4.out.all⟩
  ·have HX:Hid (ie=if (List.range (opsOf i.1).length).all (fun k=>thereB a f p c ((opsOf i.1).getD k 0) ((argOf i).getD k 0)) then 0 else 9):=hD (by rw [HIE.out,if_neg (by omega),if_neg (by rw [hB];decide)])
   rw [HARG.out] at hB
   rw [hB] at HRI
   clear hB hm hnm hnmx hr
   by_cases ho:opsOf i.1=[]
   ·have HO:=hD (HOPN.out ho)
    have HX2:Hid (ie=0):=hD (by rw [HX.out,ho];rfl)
    clear ho
    go_enter Tryz.func50,Tryz.ntmps50
    go_upto_region 3 with(go_at_call 87;refine(HNAME.out _ (HW.out.below (za1 w _ _) HW.out.lt)).mono ?_;rintro e w' ⟨rfl,rfl⟩)
    go_wp2_with (first
     | (go_at_call 88;refine(HRI.out _ (HW.out.below (za1 w _ _) HW.out.lt)).mono ?_;rintro e w4 ⟨rfl,hb4⟩;have HK4:=hD (K0.out.up hb4);have c0:=(HCINS.out _ _ _ _ HK4.out).cell 0;clear hb4)
     | (go_at_call 79;refine(HO.out _).mono ?_;rintro e w5 ⟨rfl,rfl⟩))
    go_loopw [18] (fun i wr=>i=.int .i64 0∧wr=w4) (fun _ _=>0)
    case atStart=>exact⟨rfl,rfl⟩
    case round=>
     obtain⟨rfl,rfl⟩:=hrel
     go_wp2
     go_ret
     exact⟨by rw [HX2.out];rfl,HK4.out.all⟩
   ·obtain⟨n,hn⟩:∃ n,(opsOf i.1).length=n:=⟨_,rfl⟩
    have hn0:0<n:=by rw [← hn];exact List.length_pos_iff.2 ho
    have HO:=hD (HOPS.out n hn hn0)
    have hn4:n≤4:=by rw [← hn];exact HFEW.out
    have HN:=hD hn
    rw [hn] at HX
    clear ho hn hn0
    go_enter Tryz.func50,Tryz.ntmps50
    go_upto_region 3 with(go_at_call 87;refine(HNAME.out _ (HW.out.below (za1 w _ _) HW.out.lt)).mono ?_;rintro e w' ⟨rfl,rfl⟩)
    go_wp2_with (first
     | (go_at_call 88;refine(HRI.out _ (HW.out.below (za1 w _ _) HW.out.lt)).mono ?_;rintro e w4 ⟨rfl,hb4⟩;have HK4:=hD (K0.out.up hb4);have c0:=(HCINS.out _ _ _ _ HK4.out).cell 0;clear hb4)
     | (go_at_call 79;refine(HO.out _).mono ?_;rintro e w5 ⟨rfl,hw5⟩))
    have HK5:Hid (Ck w _ w5 (w.heap.size) (w.heap.size+1) (.slice A1 a c1) (.slice A2 f c2) (.slice A3 p c3) (.slice A4 c c4) i):=hD (HK4.out.up (by rw [← hw5];exact za w4 _))
    have HKND:Hid (∀ k,k<n→w5.cell? ⟨w4.heap.size,k,none⟩=some (.int .i64 ((opsOf i.1).getD k 0))):=hD (fun k hk=>by
     rw [← hw5,(Box.new w4 3 ((opsOf i.1).map (Value.int .i64)).toArray).cell k]
     have:=HN.out
     simp [List.getD_eq_getElem?_getD,show k<(opsOf i.1).length by omega])
    have HLT5:Hid (w4.heap.size<w5.heap.size):=hD (by rw [← hw5];simp)
    obtain⟨gk,hgk⟩:∃ gk,w4.heap.size=gk:=⟨_,rfl⟩
    rw [hgk] at HKND HLT5 ⊢
    obtain⟨g3,hg3⟩:∃ g3,w.heap.size+1=g3:=⟨_,rfl⟩
    rw [hg3] at HK5 ⊢
    obtain⟨g2,hg2⟩:∃ g2,w.heap.size=g2:=⟨_,rfl⟩
    rw [hg2] at HK5 ⊢
    have HG2:=hD hg2
    clear hw5 c0 HK4 hgk hg3 hg2
    go_loopw [18] (fun iv wr=>∃ k:Nat,k≤n∧iv=.int .i64 k∧Below w5.heap.size w5 wr∧∀ j,j<k→thereB a f p c ((opsOf i.1).getD j 0) ((argOf i).getD j 0)=true) (fun iv _=>n - (intOf iv).toNat)
    case atStart=>exact⟨0,by omega,rfl,Below.refl _ _,fun j hj=>absurd hj (by omega)⟩
    case round=>
     obtain⟨k,hk,rfl,hbl,hall⟩:=hrel
     have HBL:=hD hbl
     have HA:=hD hall
     have HKR:=hD (HK5.out.up hbl)
     clear hbl hall
     by_cases hlt:k<n
     ·have hkc:=(HBL.out.cell (p:=⟨gk,k,none⟩) HLT5.out).trans (HKND.out k hlt)
      have hac:=HCARG.out _ _ _ _ HKR.out k (by omega)
      have o0:=HKR.out.obAt.cell 0
      have o1:=HKR.out.obAt.cell 1
      have o2:=HKR.out.obAt.cell 2
      have o3:=HKR.out.obAt.cell 3
      have HTH:=hD (fun w=>there_any A1 A2 A3 A4 a c1 f c2 p c3 c c4 ((opsOf i.1).getD k 0) ((argOf i).getD k 0) w)
      have d1:decide ((k:Int)<(4:Int))=true:=by rw [decide_eq_true_eq];omega
      have HT2:Hid (thereB a f p c ((opsOf i.1).getD k 0) ((argOf i).getD k 0)=false→ie=9):=hD (fun h=>by
       rw [HX.out,if_neg]
       intro h2
       rw [(zl6 n _).1 h2 k hlt] at h
       cases h)
      have HT3:Hid (thereB a f p c ((opsOf i.1).getD k 0) ((argOf i).getD k 0)=true→∀ j,j<k+1→thereB a f p c ((opsOf i.1).getD j 0) ((argOf i).getD j 0)=true):=hD (fun h j hj=>by
       by_cases e:j=k
       ·rw [e];exact h
       ·exact HA.out j (by omega))
      generalize (opsOf i.1).getD k 0=y at hkc HTH HT2 HT3
      generalize (argOf i).getD k 0=x at hac HTH HT2 HT3
      generalize thereB a f p c y x=th at HTH HT2 HT3
      have d2:(k:Int)<4:=by omega
      have d3:k<4:=by omega
      have d4:decide (k<4)=true:=by rw [decide_eq_true_eq];omega
      have d5:(0:Int)≤(k:Int):=by omega
      have hS:=And.intro (And.intro o0 o1) (And.intro (And.intro o2 o3) hac)
      clear o0 o1 o2 o3 hac
      go_upto_region 8 with(fail)
      have HG:Hid (g2<wr.heap.size∧g3<wr.heap.size):=hD ⟨HKR.out.obAt.lt,HKR.out.insAt.lt⟩
      have HB7:Hid (Below wr.heap.size wr (wr.drewN 1)):=hD (bdrew0 wr 1)
      cases th
      ·have HT:=hD (HT2.out rfl)
       clear HT2 HT3
       go_region_held3 (fun w'=>(w'.cell? ⟨g2,0,none⟩=some (.slice A1 a c1)∧w'.cell? ⟨g2,1,none⟩=some (.slice A2 f c2))∧(w'.cell? ⟨g2,2,none⟩=some (.slice A3 p c3)∧w'.cell? ⟨g2,3,none⟩=some (.slice A4 c c4))∧w'.cell? ⟨g3,1+k,none⟩=some (.int .i64 x))
        (first | exact hS8 | exact hS)
        (first
         | (go_at_call 89;refine(HTH.out _).mono ?_;rintro e w8 ⟨rfl,hb8⟩;have hS8:=five_up hb8 HG.out.1 HG.out.2 hS;replace HB7:=hD (HB7.out.trans (hb8.mono HB7.out.size));clear hb8))
       go_wp2
       go_ret
       exact⟨by rw [HT.out];rfl,(HKR.out.up HB7.out).all⟩
      ·have HT:=hD (HT3.out rfl)
       clear HT2 HT3
       go_region_held3 (fun w'=>(w'.cell? ⟨g2,0,none⟩=some (.slice A1 a c1)∧w'.cell? ⟨g2,1,none⟩=some (.slice A2 f c2))∧(w'.cell? ⟨g2,2,none⟩=some (.slice A3 p c3)∧w'.cell? ⟨g2,3,none⟩=some (.slice A4 c c4))∧w'.cell? ⟨g3,1+k,none⟩=some (.int .i64 x))
        (first | exact hS8 | exact hS)
        (first
         | (go_at_call 89;refine(HTH.out _).mono ?_;rintro e w8 ⟨rfl,hb8⟩;have hS8:=five_up hb8 HG.out.1 HG.out.2 hS;replace HB7:=hD (HB7.out.trans (hb8.mono HB7.out.size));clear hb8))
       go_wp2
       go_roundw
       case rel=>exact⟨k+1,by omega,by go_num,HBL.out.trans (HB7.out.mono HBL.out.size),HT.out⟩
       case measure=>simp [intOf];omega
     ·obtain rfl:k=n:=by omega
      have HT:Hid (ie=0):=hD (by rw [HX.out,if_pos ((zl6 _ _).2 HA.out)])
      go_wp2
      go_ret
      exact⟨by rw [HT.out];rfl,HKR.out.all⟩
 ·have hnm:nameOf i.1=⟨#[]⟩:=if_neg hr
  have HNAME:=hD (fun w hw=>hnm ▸ ze4 i.1 w hw)
  have HX:Hid (ie=8):=hD (by rw [HIE.out,if_pos hr])
  clear hnm hr
  go_enter Tryz.func50,Tryz.ntmps50
  go_wp2_with (go_at_call 87;refine(HNAME.out _ (HW.out.below (za1 w _ _) HW.out.lt)).mono ?_;rintro e w' ⟨rfl,rfl⟩)
  go_ret
  exact⟨by rw [HX.out];rfl,K0.out.all⟩
def entOf (p:ByteArray × Int × Int):Int:=p.2.2
def EntsTo (n:Nat) (es:List Int):Prop:=es.all (entryOk n)=true∧(es.filter (fun e=>decide (e≠65535))).Nodup
theorem zy17 (n:Nat):EntsTo n []:=⟨rfl,by simp⟩
theorem zd14 {n:Nat} {es:List Int} (h:EntsTo n es):EntsTo n (es ++ [65535]):=by
 refine⟨by rw [List.all_append,h.1];simp [entryOk],?_⟩
 rw [List.filter_append]
 simpa using h.2
theorem zf14 {n:Nat} {es:List Int} {m:Nat} (h:EntsTo n es) (hm:m<n) (hn:(m:Int) ∉ es):EntsTo n (es ++ [(m:Int)]):=by
 refine⟨by rw [List.all_append,h.1];simp [entryOk];omega,?_⟩
 rw [List.filter_append,List.nodup_append]
 refine⟨h.2,(show [(m:Int)].Nodup by simp).sublist List.filter_sublist,fun a ha b hb=>?_⟩
 have h1:=(List.mem_filter.1 ha).1
 have h2:b=(m:Int):=by simpa using (List.mem_filter.1 hb).1
 rintro rfl
 exact hn (h2 ▸ h1)
theorem zx17 {n:Nat} {l:List Int} {k:Nat} (hk:k<l.length) (he:entryOk n l[k]=false):entsOk n l=false:=by
 unfold entsOk
 rw [zg7 _ l k hk he]
 rfl
theorem zn11 {n:Nat} {l:List Int} {k:Nat} (hk:k<l.length) (he:l[k]≠65535) (hin:l[k] ∈ l.take k):entsOk n l=false:=by
 unfold entsOk
 have:¬ (l.filter (fun e=>decide (e≠65535))).Nodup:=fun hd=>by
  have h2:((l.take (k+1)).filter (fun e=>decide (e≠65535))).Nodup:=hd.sublist ((List.take_sublist _ _).filter _)
  rw [List.take_succ_eq_append_getElem hk,List.filter_append,List.nodup_append] at h2
  exact h2.2.2 l[k] (List.mem_filter.2 ⟨hin,by simpa using he⟩) l[k] (by simp [he]) rfl
 rw [decide_eq_false this,Bool.and_false]
theorem zw17 {n:Nat} {l:List Int} (h:EntsTo n l):entsOk n l=true:=by
 unfold entsOk
 rw [h.1,decide_eq_true h.2]
 rfl
structure En (w wr:World) (g1 g2:Nat) (va vf vp vc:Value) (es:List Int):Prop where
 ob:Box wr g1 35 #[va,vf,vp,vc]
 tab:∃ cs:Array Value,cs.size=1024∧Box wr g2 163 cs∧∀ j:Nat,j<1024→cs[j]?=some (.bool (decide ((j:Int) ∈ es)))
 ne:g1≠g2
 new1:w.heap.size≤g1
 new2:w.heap.size≤g2
 below:Below w.heap.size w wr
theorem En.alloc {w wr:World} {g1 g2:Nat} {va vf vp vc:Value} {es:List Int} (h:En w wr g1 g2 va vf vp vc es) (o:Obj):En w (wr.alloc o) g1 g2 va vf vp vc es:=by
 obtain⟨cs,h1,h2,h3⟩:=h.tab
 exact⟨h.ob.alloc o,⟨cs,h1,h2.alloc o,h3⟩,h.ne,h.new1,h.new2,h.below.alloc h.below.size o⟩
theorem En.same {w wr:World} {g1 g2:Nat} {va vf vp vc:Value} {es es':List Int} (h:En w wr g1 g2 va vf vp vc es) (he:∀ j:Nat,j<1024→((j:Int) ∈ es ↔ (j:Int) ∈ es')):En w wr g1 g2 va vf vp vc es':=by
 obtain⟨cs,h1,h2,h3⟩:=h.tab
 refine⟨h.ob,⟨cs,h1,h2,fun j hj=>?_⟩,h.ne,h.new1,h.new2,h.below⟩
 rw [h3 j hj]
 simp [he j hj]
theorem En.cell {w wr:World} {g1 g2:Nat} {va vf vp vc:Value} {es:List Int} (h:En w wr g1 g2 va vf vp vc es) (m:Nat) (hm:m<1024):wr.cell? ⟨g2,m,none⟩=some (.bool (decide ((m:Int) ∈ es)))∧wr.frozen? ⟨g2,m,none⟩=false:=by
 obtain⟨cs,h1,h2,h3⟩:=h.tab
 exact⟨(h2.cell m).trans (h3 m hm),h2.frozen m⟩
theorem En.set {w wr:World} {g1 g2:Nat} {va vf vp vc:Value} {es:List Int} (h:En w wr g1 g2 va vf vp vc es) (m:Nat) (hm:m<1024):En w (wr.setCell ⟨g2,m,none⟩ (.bool true)) g1 g2 va vf vp vc (es ++ [(m:Int)]):=by
 obtain⟨cs,h1,h2,h3⟩:=h.tab
 refine⟨h.ob.far h.ne _,⟨cs.setIfInBounds m (.bool true),by simp [h1],h2.set_ m _,fun j hj=>?_⟩,h.ne,h.new1,h.new2,h.below.setCell (p:=⟨g2,m,none⟩) h.new2 _⟩
 rw [Array.getElem?_setIfInBounds]
 by_cases e:m=j
 ·subst e
  simp [h1,hm]
 ·rw [if_neg e,h3 j hj]
  have:¬ (j:Int)=(m:Int):=by omega
  simp [this]
def isFalseV:Value→Bool
 | .bool false=>true
 | _=>false
theorem zk16 {v:Value} (h:isFalseV v=true):v=.bool false:=by
 unfold isFalseV at h
 split at h
 ·rfl
 ·cases h
theorem zf7:Tryz.zeroCells163.size=1024:=by kernel_rfl
theorem zx15:(Tryz.zeroCells163.toList.all isFalseV)=true:=by kernel_rfl
theorem zn17 (j:Nat) (h:j<1024):Tryz.zeroCells163[j]?=some (.bool false):=by
 have hj:j<Tryz.zeroCells163.size:=by rw [zf7];exact h
 rw [Array.getElem?_eq_getElem hj]
 have h1:=List.all_eq_true.1 zx15 (Tryz.zeroCells163[j]) (Array.getElem_mem_toList hj)
 rw [zk16 h1]
theorem en_start (w:World) (va vf vp vc:Value):En w ((w.alloc (.cells #[va,vf,vp,vc] 35)).alloc (.cells Tryz.zeroCells163 163)) w.heap.size (w.heap.size+1) va vf vp vc []:=by
 have h:=Box.new (w.alloc (.cells #[va,vf,vp,vc] 35)) 163 Tryz.zeroCells163
 rw [World.size_alloc] at h
 exact⟨(Box.new w _ _).alloc _,⟨_,zf7,h,fun j hj=>by rw [zn17 j hj];simp⟩,by omega,Nat.le_refl _,by omega,za1 w _ _⟩
set_option maxRecDepth 100000 in
set_option maxHeartbeats 4000000 in
theorem zf16 (A1 A2 A4:Option Addr) (a c1 f c2 c c4:Nat) (l:List (ByteArray × Int × Int)) (hm:l.length≤1000000) (hc:c≤1024) (vp:Value) (w:World) (hv:PredsAt w vp l) :
  Calls Tryz.prog 49 #[.agg #[.slice A1 a c1,.slice A2 f c2,vp,.slice A4 c c4]] w fun e w'=>e=.returned (.bool (entsOk c (l.map entOf)))∧Below w.heap.size w w':=by
 obtain⟨A3,c3,rfl⟩:=CellsAt.form hv
 have HV:=hD hv
 clear hv
 go_enter Tryz.func49,Tryz.ntmps49
 go_upto_region 2 with(fail)
 have E0:=hD (en_start w (.slice A1 a c1) (.slice A2 f c2) (.slice A3 l.length c3) (.slice A4 c c4))
 obtain⟨w0,hw0⟩:∃ w0,(w.alloc (.cells #[.slice A1 a c1,.slice A2 f c2,.slice A3 l.length c3,.slice A4 c c4] 35)).alloc (.cells Tryz.zeroCells163 163)=w0:=⟨_,rfl⟩
 rw [hw0] at E0 ⊢
 obtain⟨g2,hg2⟩:∃ g2,w.heap.size+1=g2:=⟨_,rfl⟩
 rw [hg2] at E0 ⊢
 obtain⟨g1,hg1⟩:∃ g1,w.heap.size=g1:=⟨_,rfl⟩
 rw [hg1] at E0 ⊢
 clear hw0 hg2 hg1
 have q2:=E0.out.ob.cell 2
 go_wp2
 clear q2
 go_loopw [9] (fun i wr=>∃ k:Nat,k≤l.length∧i=.int .i64 k∧Hid (EntsTo c ((l.map entOf).take k))∧Hid (En w wr g1 g2 (.slice A1 a c1) (.slice A2 f c2) (.slice A3 l.length c3) (.slice A4 c c4) ((l.map entOf).take k))) (fun i _=>l.length - (intOf i).toNat)
 case atStart=>exact⟨0,by omega,rfl,hD (zy17 c),E0⟩
 case round=>
  obtain⟨k,hk,rfl,HT,HE⟩:=hrel
  clear E0
  by_cases hlt:k<l.length
  ·obtain⟨b,off,rfl,hb,hc0,hc1,hc2⟩:=zd1 HV.out k hlt
   have d0:=(HE.out.below.cell (p:=⟨b,off+k * 3,none⟩) hb).trans hc0
   have d1:=(HE.out.below.cell (p:=⟨b,off+k * 3+1,none⟩) hb).trans hc1
   have d2:=(HE.out.below.cell (p:=⟨b,off+k * 3+2,none⟩) hb).trans hc2
   have hkl:k<(l.map entOf).length:=by rw [List.length_map];exact hlt
   have hge:(l.map entOf)[k]=l[k].2.2:=by rw [List.getElem_map];rfl
   have HTK:Hid ((l.map entOf).take (k+1)=(l.map entOf).take k ++ [l[k].2.2]):=hD (by rw [List.take_succ_eq_append_getElem hkl,hge])
   have HBAD:Hid (entryOk c l[k].2.2=false→entsOk c (l.map entOf)=false):=hD (fun h=>zx17 hkl (by rw [hge];exact h))
   have HTW:Hid (l[k].2.2≠65535→l[k].2.2 ∈ (l.map entOf).take k→entsOk c (l.map entOf)=false):=hD (fun h1 h2=>zn11 hkl (by rw [hge];exact h1) (by rw [hge];exact h2))
   clear hc0 hc1 hc2 hge hkl
   generalize l[k].1=s at d0
   generalize l[k].2.1=n at d1
   generalize l[k].2.2=e at d2 HTK HBAD HTW
   have HE2:=hD (HE.out.alloc (.cells #[.string s,.int .i64 n,.int .i64 e] 64))
   by_cases hn:e=65535
   ·subst hn
    have HN1:Hid (EntsTo c ((l.map entOf).take (k+1))):=hD (by rw [HTK.out];exact zd14 HT.out)
    have HN2:=hD (HE2.out.same (es':=(l.map entOf).take (k+1)) (fun j hj=>by rw [HTK.out];simp;omega))
    go_wp2
    go_roundw
    case rel=>exact⟨k+1,by omega,by go_num,HN1,HN2⟩
    case measure=>simp [intOf];omega
   ·have hne:(e == 65535)=false:=by simpa using hn
    have x3:=(HE.out.ob.alloc (.cells #[.string s,.int .i64 n,.int .i64 e] 64)).cell 3
    by_cases hin:0≤e∧e<(c:Int)
    ·obtain⟨m,rfl⟩:=Int.eq_ofNat_of_zero_le hin.1
     have hmc:m<c:=by omega
     have hm1024:m<1024:=by omega
     obtain⟨y0,y1⟩:=HE2.out.cell m hm1024
     have hwi:=fun w=>(zt2 (m:Int) (c:Int) w).mono (R':=fun e w'=>e=.returned (.bool true)∧w=w') (fun e w' h=>⟨by rw [h.1,decide_eq_true hin],h.2⟩)
     have HWI:=hD hwi
     have z1:(m:Int)<1024:=by omega
     have z2:(0:Int)≤(m:Int):=by omega
     have HSET:=hD (HE2.out.set m hm1024)
     clear hin hwi
     by_cases ht:(m:Int) ∈ (l.map entOf).take k
     ·rw [decide_eq_true ht] at y0
      have HX:=hD (HTW.out hn ht)
      clear ht hn
      go_wp2_with (go_at_call 86;refine(HWI.out _).mono ?_;rintro e w' ⟨rfl,rfl⟩)
      go_ret
      exact⟨by rw [HX.out];rfl,HE2.out.below⟩
     ·rw [decide_eq_false ht] at y0
      have HN1:Hid (EntsTo c ((l.map entOf).take (k+1))):=hD (by rw [HTK.out];exact zf14 HT.out hmc ht)
      rw [← HTK.out] at HSET
      clear ht hn
      go_wp2_with (go_at_call 86;refine(HWI.out _).mono ?_;rintro e w' ⟨rfl,rfl⟩)
      go_roundw
      case rel=>exact⟨k+1,by omega,by go_num,HN1,HSET⟩
      case measure=>simp [intOf];omega
    ·have hwi:=fun w=>(zt2 e (c:Int) w).mono (R':=fun e w'=>e=.returned (.bool false)∧w=w') (fun e w' h=>⟨by rw [h.1,decide_eq_false hin],h.2⟩)
     have HWI:=hD hwi
     have HX:=hD (HBAD.out (by unfold entryOk;rw [decide_eq_false_iff_not];omega))
     clear hwi hin hn
     go_wp2_with (go_at_call 86;refine(HWI.out _).mono ?_;rintro e w' ⟨rfl,rfl⟩)
     go_ret
     exact⟨by rw [HX.out];rfl,HE2.out.below⟩
  ·obtain rfl:k=l.length:=by omega
   have HX:Hid (entsOk c (l.map entOf)=true):=hD (by
    have h:=HT.out
    rw [List.take_of_length_le (by simp)] at h
    exact zw17 h)
   go_wp2
   go_ret
   exact⟨by rw [HX.out];rfl,HE.out.below⟩
end Go.Proofs.YtlmbiafloiompaaGreatDoor
