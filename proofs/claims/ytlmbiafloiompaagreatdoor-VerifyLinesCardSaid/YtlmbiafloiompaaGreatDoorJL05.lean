/-
  12 texts in one (ObjD ObjE ObjF CrcA ObjG ObjH ObjI ObjJ ObjK ObjN ObjP ObjQ). Conditions: those of each theorem.
-/
import Derived.Test.YtlmbiafloiompaaGreatDoorJL02
import Derived.Test.YtlmbiafloiompaaGreatDoorJL04
import Derived.Test.YtlmbiafloiompaaGreatDoorJL01
import Derived.Test.YtlmbiafloiompaaGreatDoorProg
import Derived.IntWalk
import Derived.Lib.Hide
import Derived.Deep.RegionWith
import Derived.Lib.SlBytesConst
import Derived.Laws.IdiomStrings
import Derived.Deep.QuietTactic
import Derived.BigQuiet
import Derived.Deep.RegionLaw
namespace Go.Proofs.YtlmbiafloiompaaGreatDoor
open Go Go.RowKit Go.WideShapes Go.ChangeShapes
set_option linter.unusedVariables false
set_option linter.unusedSimpArgs false
theorem there_any (A1 A2 A3 A4:Option Addr) (a c1 f c2 p c3 c c4:Nat) (kind n:Int) (w:World) :
  Calls Tryz.prog 89 #[.agg #[.slice A1 a c1,.slice A2 f c2,.slice A3 p c3,.slice A4 c c4],.int .i64 kind,.int .i64 n] w fun e w'=>e=.returned (.bool (thereB a f p c kind n))∧Below w.heap.size w w':=by
 have HB:=hD (zc w (.cells #[.slice A1 a c1,.slice A2 f c2,.slice A3 p c3,.slice A4 c c4] 35))
 by_cases h3:kind=3
 ·subst h3
  go_enter Tryz.func89,Tryz.ntmps89
  go_wp2_with (go_at_call 86;refine(zw2 _ _ _).mono ?_;rintro e w' ⟨rfl,rfl⟩)
  go_ret
  exact⟨ret_b (by simp [thereB]),HB.out⟩
 have h3':(kind == 3)=false:=by simpa using h3
 by_cases h4:kind=4
 ·subst h4
  go_enter Tryz.func89,Tryz.ntmps89
  go_wp2_with (go_at_call 86;refine(zw2 _ _ _).mono ?_;rintro e w' ⟨rfl,rfl⟩)
  go_ret
  exact⟨ret_b (by simp [thereB]),HB.out⟩
 have h4':(kind == 4)=false:=by simpa using h4
 by_cases h7:kind=7
 ·subst h7
  go_enter Tryz.func89,Tryz.ntmps89
  go_wp2_with (go_at_call 86;refine(zw2 _ _ _).mono ?_;rintro e w' ⟨rfl,rfl⟩)
  go_ret
  exact⟨ret_b (by simp [thereB]),HB.out⟩
 have h7':(kind == 7)=false:=by simpa using h7
 by_cases h8:kind=8
 ·subst h8
  by_cases hn:n=65535
  ·subst hn
   go_enter Tryz.func89,Tryz.ntmps89
   go_wp2_with (go_at_call 86;refine(zw2 _ _ _).mono ?_;rintro e w' ⟨rfl,rfl⟩)
   go_ret
   exact⟨rfl,HB.out⟩
  ·have hn':(n == 65535)=false:=by simpa using hn
   have he:thereB a f p c 8 n=decide (0≤n∧n<(c:Int)):=by
    show decide (n=65535 ∨ (0≤n∧n<(c:Int)))=_
    rw [Bool.eq_iff_iff]
    simp [hn]
   rw [he]
   clear he
   go_enter Tryz.func89,Tryz.ntmps89
   go_wp2_with (go_at_call 86;refine(zw2 _ _ _).mono ?_;rintro e w' ⟨rfl,rfl⟩)
   go_ret
   exact⟨ret_b (by simp),HB.out⟩
 have h8':(kind == 8)=false:=by simpa using h8
 have he:thereB a f p c kind n=true:=by
  unfold thereB
  rw [if_neg h3,if_neg h4,if_neg h7,if_neg h8]
 rw [he]
 clear he
 go_enter Tryz.func89,Tryz.ntmps89
 go_wp2
 go_ret
 exact⟨rfl,HB.out⟩
structure Ck (w w3 wr:World) (g2 g3:Nat) (va vf vp vc:Value) (i:Ins):Prop where
 ob:Box w3 g2 35 #[va,vf,vp,vc]
 ins:Box w3 g3 65 #[.int .i64 i.1,.int .i64 i.2.1,.int .i64 i.2.2.1,.int .i64 i.2.2.2.1,.int .i64 i.2.2.2.2]
 new:w.heap.size≤w3.heap.size
 old:Below w.heap.size w w3
 below:Below w3.heap.size w3 wr
theorem Ck.up {w w3 wr w':World} {g2 g3:Nat} {va vf vp vc:Value} {i:Ins} (h:Ck w w3 wr g2 g3 va vf vp vc i) (hb:Below wr.heap.size wr w'):Ck w w3 w' g2 g3 va vf vp vc i:=
 ⟨h.ob,h.ins,h.new,h.old,h.below.trans (hb.mono h.below.size)⟩
theorem Ck.all {w w3 wr:World} {g2 g3:Nat} {va vf vp vc:Value} {i:Ins} (h:Ck w w3 wr g2 g3 va vf vp vc i):Below w.heap.size w wr:=h.old.trans (h.below.mono h.new)
theorem Ck.obAt {w w3 wr:World} {g2 g3:Nat} {va vf vp vc:Value} {i:Ins} (h:Ck w w3 wr g2 g3 va vf vp vc i):Box wr g2 35 #[va,vf,vp,vc]:=h.ob.below h.below h.ob.lt
theorem Ck.insAt {w w3 wr:World} {g2 g3:Nat} {va vf vp vc:Value} {i:Ins} (h:Ck w w3 wr g2 g3 va vf vp vc i):Box wr g3 65 #[.int .i64 i.1,.int .i64 i.2.1,.int .i64 i.2.2.1,.int .i64 i.2.2.2.1,.int .i64 i.2.2.2.2]:=h.ins.below h.below h.ins.lt
theorem Ck.arg {w w3 wr:World} {g2 g3:Nat} {va vf vp vc:Value} {i:Ins} (h:Ck w w3 wr g2 g3 va vf vp vc i) (k:Nat) (hk:k<4):wr.cell? ⟨g3,1+k,none⟩=some (.int .i64 ((argOf i).getD k 0)):=by
 rw [h.insAt.cell (1+k)]
 match k,hk with
 | 0,_=>rfl
 | 1,_=>rfl
 | 2,_=>rfl
 | 3,_=>rfl
theorem ck_start (w:World) (va vf vp vc:Value) (i:Ins):Ck w ((w.alloc (.cells #[va,vf,vp,vc] 35)).alloc (.cells #[.int .i64 i.1,.int .i64 i.2.1,.int .i64 i.2.2.1,.int .i64 i.2.2.2.1,.int .i64 i.2.2.2.2] 65))
  ((w.alloc (.cells #[va,vf,vp,vc] 35)).alloc (.cells #[.int .i64 i.1,.int .i64 i.2.1,.int .i64 i.2.2.1,.int .i64 i.2.2.2.1,.int .i64 i.2.2.2.2] 65)) w.heap.size (w.heap.size+1) va vf vp vc i:=by
 refine⟨(Box.new w _ _).alloc _,?_,by simp;omega,zn1 w _ _,Below.refl _ _⟩
 have h:=Box.new (w.alloc (.cells #[va,vf,vp,vc] 35)) 65 #[.int .i64 i.1,.int .i64 i.2.1,.int .i64 i.2.2.1,.int .i64 i.2.2.2.1,.int .i64 i.2.2.2.2]
 rw [World.size_alloc] at h
 exact h
theorem five_up {w0 w':World} {g2 g3 k:Nat} {a b c d e:Value} (h:Below w0.heap.size w0 w') (h2:g2<w0.heap.size) (h3:g3<w0.heap.size)
  (h0:(w0.cell? ⟨g2,0,none⟩=some a∧w0.cell? ⟨g2,1,none⟩=some b)∧(w0.cell? ⟨g2,2,none⟩=some c∧w0.cell? ⟨g2,3,none⟩=some d)∧w0.cell? ⟨g3,k,none⟩=some e) :
  (w'.cell? ⟨g2,0,none⟩=some a∧w'.cell? ⟨g2,1,none⟩=some b)∧(w'.cell? ⟨g2,2,none⟩=some c∧w'.cell? ⟨g2,3,none⟩=some d)∧w'.cell? ⟨g3,k,none⟩=some e:=
 ⟨⟨(h.cell (p:=⟨g2,0,none⟩) h2).trans h0.1.1,(h.cell (p:=⟨g2,1,none⟩) h2).trans h0.1.2⟩,⟨(h.cell (p:=⟨g2,2,none⟩) h2).trans h0.2.1.1,(h.cell (p:=⟨g2,3,none⟩) h2).trans h0.2.1.2⟩,(h.cell (p:=⟨g3,k,none⟩) h3).trans h0.2.2⟩
theorem bdrew0 (W:World) (n:Nat):Below W.heap.size W (W.drewN n):=⟨rfl,rfl,rfl,Nat.le_refl _,fun _ _=>rfl⟩
theorem zc6 (n:Nat) (P:Nat→Bool):(List.range n).all P=true ↔ ∀ j,j<n→P j=true:=by
 simp [List.all_eq_true]
set_option maxRecDepth 100000 in
set_option maxHeartbeats 8000000 in
theorem zk10 (A1 A2 A3 A4:Option Addr) (a c1 f c2 p c3 c c4:Nat) (i:Ins) (w:World) (hw:NamesAt w) :
  Calls Tryz.prog 50 #[.agg #[.slice A1 a c1,.slice A2 f c2,.slice A3 p c3,.slice A4 c c4],.agg #[.int .i64 i.1,.int .i64 i.2.1,.int .i64 i.2.2.1,.int .i64 i.2.2.2.1,.int .i64 i.2.2.2.2]] w
   fun e w'=>e=.returned (.int .i64 (insErr a f p c i))∧Below w.heap.size w w':=by
 have K0:=hD (ck_start w (.slice A1 a c1) (.slice A2 f c2) (.slice A3 p c3) (.slice A4 c c4) i)
 have HW:=hD hw
 have HRI:=hD (fun w hw=>zl6 i.1 i.2.1 i.2.2.1 i.2.2.2.1 i.2.2.2.2 w hw)
 have HIE:Hid (insErr a f p c i=if ¬ (0≤i.1∧i.1≤26) then 8 else if rightB i.1 (argOf i)=false then 9 else if (List.range (opsOf i.1).length).all (fun k=>thereB a f p c ((opsOf i.1).getD k 0) ((argOf i).getD k 0)) then 0 else 9):=hD rfl
 have HARG:Hid (argOf i=[i.2.1,i.2.2.1,i.2.2.2.1,i.2.2.2.2]):=hD rfl
 generalize insErr a f p c i=ie at HIE
 have HCARG:=hD (fun w3 wr g2 g3 (h:Ck w w3 wr g2 g3 (.slice A1 a c1) (.slice A2 f c2) (.slice A3 p c3) (.slice A4 c c4) i) k hk=>h.arg k hk)
 have HCINS:=hD (fun w3 wr g2 g3 (h:Ck w w3 wr g2 g3 (.slice A1 a c1) (.slice A2 f c2) (.slice A3 p c3) (.slice A4 c c4) i)=>h.insAt)
 unfold insV at HRI
 clear hw
 by_cases hr:0≤i.1∧i.1≤26
 ·obtain⟨m,hm⟩:=Int.eq_ofNat_of_zero_le hr.1
  have hne:=zc4 m (by omega)
  have hnm:nameOf i.1=nameAt m:=by rw [hm];rw [nameOf,if_pos (by omega)];rfl
  have HNAME:=hD (fun w hw=>hnm ▸ zb4 i.1 w hw)
  obtain⟨nm,hnmx⟩:∃ nm,nameAt m=nm:=⟨_,rfl⟩
  rw [hnmx] at hne HNAME
  have HOPN:=hD (fun(h:opsOf i.1=[]) w=>zf3 i.1 h w)
  have HOPS:=hD (fun n hn h0 w=>zg3 i.1 n hn h0 w)
  have HFEW:=hD (zd2 i.1)
  cases hB:rightB i.1 (argOf i)
  ·have HX:Hid (ie=9):=hD (by rw [HIE.out,if_neg (by omega),if_pos hB])
   rw [HARG.out] at hB
   rw [hB] at HRI
   clear hB hm hnm hnmx hr
   go_enter Tryz.func50,Tryz.ntmps50
   go_wp2_with (first
    | (go_at_call 87;refine(HNAME.out _ (HW.out.below (zn1 w _ _) HW.out.lt)).mono ?_;rintro e w' ⟨rfl,rfl⟩)
    | (go_at_call 88;refine(HRI.out _ (HW.out.below (zn1 w _ _) HW.out.lt)).mono ?_;rintro e w4 ⟨rfl,hb4⟩;have HK4:=hD (K0.out.up hb4);clear hb4))
   go_ret
   exact⟨by rw [HX.out];rfl,HK4.out.all⟩
  ·have HX:Hid (ie=if (List.range (opsOf i.1).length).all (fun k=>thereB a f p c ((opsOf i.1).getD k 0) ((argOf i).getD k 0)) then 0 else 9):=hD (by rw [HIE.out,if_neg (by omega),if_neg (by rw [hB];decide)])
   rw [HARG.out] at hB
   rw [hB] at HRI
   clear hB hm hnm hnmx hr
   by_cases ho:opsOf i.1=[]
   ·have HO:=hD (HOPN.out ho)
    have HX2:Hid (ie=0):=hD (by rw [HX.out,ho];rfl)
    clear ho
    go_enter Tryz.func50,Tryz.ntmps50
    go_upto_region 3 with(go_at_call 87;refine(HNAME.out _ (HW.out.below (zn1 w _ _) HW.out.lt)).mono ?_;rintro e w' ⟨rfl,rfl⟩)
    go_wp2_with (first
     | (go_at_call 88;refine(HRI.out _ (HW.out.below (zn1 w _ _) HW.out.lt)).mono ?_;rintro e w4 ⟨rfl,hb4⟩;have HK4:=hD (K0.out.up hb4);have c0:=(HCINS.out _ _ _ _ HK4.out).cell 0;clear hb4)
     | (go_at_call 79;refine(HO.out _).mono ?_;rintro e w5 ⟨rfl,rfl⟩))
    go_loopw [18] (fun i wr=>i=.int .i64 0∧wr=w4) (fun _ _=>0)
    case atStart=>exact⟨rfl,rfl⟩
    case round=>
     obtain⟨rfl,rfl⟩:=hrel
     go_wp2
     go_ret
     exact⟨by rw [HX2.out];rfl,HK4.out.all⟩
   ·obtain⟨n,hn⟩:∃ n,(opsOf i.1).length=n:=⟨_,rfl⟩
    have hn0:0<n:=by rw [← hn];exact List.length_pos_iff.2 ho
    have HO:=hD (HOPS.out n hn hn0)
    have hn4:n≤4:=by rw [← hn];exact HFEW.out
    have HN:=hD hn
    rw [hn] at HX
    clear ho hn hn0
    go_enter Tryz.func50,Tryz.ntmps50
    go_upto_region 3 with(go_at_call 87;refine(HNAME.out _ (HW.out.below (zn1 w _ _) HW.out.lt)).mono ?_;rintro e w' ⟨rfl,rfl⟩)
    go_wp2_with (first
     | (go_at_call 88;refine(HRI.out _ (HW.out.below (zn1 w _ _) HW.out.lt)).mono ?_;rintro e w4 ⟨rfl,hb4⟩;have HK4:=hD (K0.out.up hb4);have c0:=(HCINS.out _ _ _ _ HK4.out).cell 0;clear hb4)
     | (go_at_call 79;refine(HO.out _).mono ?_;rintro e w5 ⟨rfl,hw5⟩))
    have HK5:Hid (Ck w _ w5 (w.heap.size) (w.heap.size+1) (.slice A1 a c1) (.slice A2 f c2) (.slice A3 p c3) (.slice A4 c c4) i):=hD (HK4.out.up (by rw [← hw5];exact zc w4 _))
    have HKND:Hid (∀ k,k<n→w5.cell? ⟨w4.heap.size,k,none⟩=some (.int .i64 ((opsOf i.1).getD k 0))):=hD (fun k hk=>by
     rw [← hw5,(Box.new w4 3 ((opsOf i.1).map (Value.int .i64)).toArray).cell k]
     have:=HN.out
     simp [List.getD_eq_getElem?_getD,show k<(opsOf i.1).length by omega])
    have HLT5:Hid (w4.heap.size<w5.heap.size):=hD (by rw [← hw5];simp)
    obtain⟨gk,hgk⟩:∃ gk,w4.heap.size=gk:=⟨_,rfl⟩
    rw [hgk] at HKND HLT5 ⊢
    obtain⟨g3,hg3⟩:∃ g3,w.heap.size+1=g3:=⟨_,rfl⟩
    rw [hg3] at HK5 ⊢
    obtain⟨g2,hg2⟩:∃ g2,w.heap.size=g2:=⟨_,rfl⟩
    rw [hg2] at HK5 ⊢
    have HG2:=hD hg2
    clear hw5 c0 HK4 hgk hg3 hg2
    go_loopw [18] (fun iv wr=>∃ k:Nat,k≤n∧iv=.int .i64 k∧Below w5.heap.size w5 wr∧∀ j,j<k→thereB a f p c ((opsOf i.1).getD j 0) ((argOf i).getD j 0)=true) (fun iv _=>n - (intOf iv).toNat)
    case atStart=>exact⟨0,by omega,rfl,Below.refl _ _,fun j hj=>absurd hj (by omega)⟩
    case round=>
     obtain⟨k,hk,rfl,hbl,hall⟩:=hrel
     have HBL:=hD hbl
     have HA:=hD hall
     have HKR:=hD (HK5.out.up hbl)
     clear hbl hall
     by_cases hlt:k<n
     ·have hkc:=(HBL.out.cell (p:=⟨gk,k,none⟩) HLT5.out).trans (HKND.out k hlt)
      have hac:=HCARG.out _ _ _ _ HKR.out k (by omega)
      have o0:=HKR.out.obAt.cell 0
      have o1:=HKR.out.obAt.cell 1
      have o2:=HKR.out.obAt.cell 2
      have o3:=HKR.out.obAt.cell 3
      have HTH:=hD (fun w=>there_any A1 A2 A3 A4 a c1 f c2 p c3 c c4 ((opsOf i.1).getD k 0) ((argOf i).getD k 0) w)
      have d1:decide ((k:Int)<(4:Int))=true:=by rw [decide_eq_true_eq];omega
      have HT2:Hid (thereB a f p c ((opsOf i.1).getD k 0) ((argOf i).getD k 0)=false→ie=9):=hD (fun h=>by
       rw [HX.out,if_neg]
       intro h2
       rw [(zc6 n _).1 h2 k hlt] at h
       cases h)
      have HT3:Hid (thereB a f p c ((opsOf i.1).getD k 0) ((argOf i).getD k 0)=true→∀ j,j<k+1→thereB a f p c ((opsOf i.1).getD j 0) ((argOf i).getD j 0)=true):=hD (fun h j hj=>by
       by_cases e:j=k
       ·rw [e];exact h
       ·exact HA.out j (by omega))
      generalize (opsOf i.1).getD k 0=y at hkc HTH HT2 HT3
      generalize (argOf i).getD k 0=x at hac HTH HT2 HT3
      generalize thereB a f p c y x=th at HTH HT2 HT3
      have d2:(k:Int)<4:=by omega
      have d3:k<4:=by omega
      have d4:decide (k<4)=true:=by rw [decide_eq_true_eq];omega
      have d5:(0:Int)≤(k:Int):=by omega
      have hS:=And.intro (And.intro o0 o1) (And.intro (And.intro o2 o3) hac)
      clear o0 o1 o2 o3 hac
      go_upto_region 8 with(fail)
      have HG:Hid (g2<wr.heap.size∧g3<wr.heap.size):=hD ⟨HKR.out.obAt.lt,HKR.out.insAt.lt⟩
      have HB7:Hid (Below wr.heap.size wr (wr.drewN 1)):=hD (bdrew0 wr 1)
      cases th
      ·have HT:=hD (HT2.out rfl)
       clear HT2 HT3
       go_region_held3 (fun w'=>(w'.cell? ⟨g2,0,none⟩=some (.slice A1 a c1)∧w'.cell? ⟨g2,1,none⟩=some (.slice A2 f c2))∧(w'.cell? ⟨g2,2,none⟩=some (.slice A3 p c3)∧w'.cell? ⟨g2,3,none⟩=some (.slice A4 c c4))∧w'.cell? ⟨g3,1+k,none⟩=some (.int .i64 x))
        (first | exact hS8 | exact hS)
        (first
         | (go_at_call 89;refine(HTH.out _).mono ?_;rintro e w8 ⟨rfl,hb8⟩;have hS8:=five_up hb8 HG.out.1 HG.out.2 hS;replace HB7:=hD (HB7.out.trans (hb8.mono HB7.out.size));clear hb8))
       go_wp2
       go_ret
       exact⟨by rw [HT.out];rfl,(HKR.out.up HB7.out).all⟩
      ·have HT:=hD (HT3.out rfl)
       clear HT2 HT3
       go_region_held3 (fun w'=>(w'.cell? ⟨g2,0,none⟩=some (.slice A1 a c1)∧w'.cell? ⟨g2,1,none⟩=some (.slice A2 f c2))∧(w'.cell? ⟨g2,2,none⟩=some (.slice A3 p c3)∧w'.cell? ⟨g2,3,none⟩=some (.slice A4 c c4))∧w'.cell? ⟨g3,1+k,none⟩=some (.int .i64 x))
        (first | exact hS8 | exact hS)
        (first
         | (go_at_call 89;refine(HTH.out _).mono ?_;rintro e w8 ⟨rfl,hb8⟩;have hS8:=five_up hb8 HG.out.1 HG.out.2 hS;replace HB7:=hD (HB7.out.trans (hb8.mono HB7.out.size));clear hb8))
       go_wp2
       go_roundw
       case rel=>exact⟨k+1,by omega,by go_num,HBL.out.trans (HB7.out.mono HBL.out.size),HT.out⟩
       case measure=>simp [intOf];omega
     ·obtain rfl:k=n:=by omega
      have HT:Hid (ie=0):=hD (by rw [HX.out,if_pos ((zc6 _ _).2 HA.out)])
      go_wp2
      go_ret
      exact⟨by rw [HT.out];rfl,HKR.out.all⟩
 ·have hnm:nameOf i.1=⟨#[]⟩:=if_neg hr
  have HNAME:=hD (fun w hw=>hnm ▸ zb4 i.1 w hw)
  have HX:Hid (ie=8):=hD (by rw [HIE.out,if_pos hr])
  clear hnm hr
  go_enter Tryz.func50,Tryz.ntmps50
  go_wp2_with (go_at_call 87;refine(HNAME.out _ (HW.out.below (zn1 w _ _) HW.out.lt)).mono ?_;rintro e w' ⟨rfl,rfl⟩)
  go_ret
  exact⟨by rw [HX.out];rfl,K0.out.all⟩
end Go.Proofs.YtlmbiafloiompaaGreatDoor

namespace Go.Proofs.YtlmbiafloiompaaGreatDoor
open Go Go.RowKit Go.WideShapes Go.ChangeShapes
set_option linter.unusedVariables false
set_option linter.unusedSimpArgs false
def entOf (p:ByteArray × Int × Int):Int:=p.2.2
def EntsTo (n:Nat) (es:List Int):Prop:=es.all (entryOk n)=true∧(es.filter (fun e=>decide (e≠65535))).Nodup
theorem zu16 (n:Nat):EntsTo n []:=⟨rfl,by simp⟩
theorem ze13 {n:Nat} {es:List Int} (h:EntsTo n es):EntsTo n (es ++ [65535]):=by
 refine⟨by rw [List.all_append,h.1];simp [entryOk],?_⟩
 rw [List.filter_append]
 simpa using h.2
theorem zg13 {n:Nat} {es:List Int} {m:Nat} (h:EntsTo n es) (hm:m<n) (hn:(m:Int) ∉ es):EntsTo n (es ++ [(m:Int)]):=by
 refine⟨by rw [List.all_append,h.1];simp [entryOk];omega,?_⟩
 rw [List.filter_append,List.nodup_append]
 refine⟨h.2,(show [(m:Int)].Nodup by simp).sublist List.filter_sublist,fun a ha b hb=>?_⟩
 have h1:=(List.mem_filter.1 ha).1
 have h2:b=(m:Int):=by simpa using (List.mem_filter.1 hb).1
 rintro rfl
 exact hn (h2 ▸ h1)
theorem zt16 {n:Nat} {l:List Int} {k:Nat} (hk:k<l.length) (he:entryOk n l[k]=false):entsOk n l=false:=by
 unfold entsOk
 rw [zv6 _ l k hk he]
 rfl
theorem zx10 {n:Nat} {l:List Int} {k:Nat} (hk:k<l.length) (he:l[k]≠65535) (hin:l[k] ∈ l.take k):entsOk n l=false:=by
 unfold entsOk
 have:¬ (l.filter (fun e=>decide (e≠65535))).Nodup:=fun hd=>by
  have h2:((l.take (k+1)).filter (fun e=>decide (e≠65535))).Nodup:=hd.sublist ((List.take_sublist _ _).filter _)
  rw [List.take_succ_eq_append_getElem hk,List.filter_append,List.nodup_append] at h2
  exact h2.2.2 l[k] (List.mem_filter.2 ⟨hin,by simpa using he⟩) l[k] (by simp [he]) rfl
 rw [decide_eq_false this,Bool.and_false]
theorem zs16 {n:Nat} {l:List Int} (h:EntsTo n l):entsOk n l=true:=by
 unfold entsOk
 rw [h.1,decide_eq_true h.2]
 rfl
structure En (w wr:World) (g1 g2:Nat) (va vf vp vc:Value) (es:List Int):Prop where
 ob:Box wr g1 35 #[va,vf,vp,vc]
 tab:∃ cs:Array Value,cs.size=1024∧Box wr g2 163 cs∧∀ j:Nat,j<1024→cs[j]?=some (.bool (decide ((j:Int) ∈ es)))
 ne:g1≠g2
 new1:w.heap.size≤g1
 new2:w.heap.size≤g2
 below:Below w.heap.size w wr
theorem En.alloc {w wr:World} {g1 g2:Nat} {va vf vp vc:Value} {es:List Int} (h:En w wr g1 g2 va vf vp vc es) (o:Obj):En w (wr.alloc o) g1 g2 va vf vp vc es:=by
 obtain⟨cs,h1,h2,h3⟩:=h.tab
 exact⟨h.ob.alloc o,⟨cs,h1,h2.alloc o,h3⟩,h.ne,h.new1,h.new2,h.below.alloc h.below.size o⟩
theorem En.same {w wr:World} {g1 g2:Nat} {va vf vp vc:Value} {es es':List Int} (h:En w wr g1 g2 va vf vp vc es) (he:∀ j:Nat,j<1024→((j:Int) ∈ es ↔ (j:Int) ∈ es')):En w wr g1 g2 va vf vp vc es':=by
 obtain⟨cs,h1,h2,h3⟩:=h.tab
 refine⟨h.ob,⟨cs,h1,h2,fun j hj=>?_⟩,h.ne,h.new1,h.new2,h.below⟩
 rw [h3 j hj]
 simp [he j hj]
theorem En.cell {w wr:World} {g1 g2:Nat} {va vf vp vc:Value} {es:List Int} (h:En w wr g1 g2 va vf vp vc es) (m:Nat) (hm:m<1024):wr.cell? ⟨g2,m,none⟩=some (.bool (decide ((m:Int) ∈ es)))∧wr.frozen? ⟨g2,m,none⟩=false:=by
 obtain⟨cs,h1,h2,h3⟩:=h.tab
 exact⟨(h2.cell m).trans (h3 m hm),h2.frozen m⟩
theorem En.set {w wr:World} {g1 g2:Nat} {va vf vp vc:Value} {es:List Int} (h:En w wr g1 g2 va vf vp vc es) (m:Nat) (hm:m<1024):En w (wr.setCell ⟨g2,m,none⟩ (.bool true)) g1 g2 va vf vp vc (es ++ [(m:Int)]):=by
 obtain⟨cs,h1,h2,h3⟩:=h.tab
 refine⟨h.ob.far h.ne _,⟨cs.setIfInBounds m (.bool true),by simp [h1],h2.set_ m _,fun j hj=>?_⟩,h.ne,h.new1,h.new2,h.below.setCell (p:=⟨g2,m,none⟩) h.new2 _⟩
 rw [Array.getElem?_setIfInBounds]
 by_cases e:m=j
 ·subst e
  simp [h1,hm]
 ·rw [if_neg e,h3 j hj]
  have:¬ (j:Int)=(m:Int):=by omega
  simp [this]
def isFalseV:Value→Bool
 | .bool false=>true
 | _=>false
theorem zi15 {v:Value} (h:isFalseV v=true):v=.bool false:=by
 unfold isFalseV at h
 split at h
 ·rfl
 ·cases h
theorem zu6:Tryz.zeroCells163.size=1024:=by kernel_rfl
theorem zx14:(Tryz.zeroCells163.toList.all isFalseV)=true:=by kernel_rfl
theorem zk16 (j:Nat) (h:j<1024):Tryz.zeroCells163[j]?=some (.bool false):=by
 have hj:j<Tryz.zeroCells163.size:=by rw [zu6];exact h
 rw [Array.getElem?_eq_getElem hj]
 have h1:=List.all_eq_true.1 zx14 (Tryz.zeroCells163[j]) (Array.getElem_mem_toList hj)
 rw [zi15 h1]
theorem en_start (w:World) (va vf vp vc:Value):En w ((w.alloc (.cells #[va,vf,vp,vc] 35)).alloc (.cells Tryz.zeroCells163 163)) w.heap.size (w.heap.size+1) va vf vp vc []:=by
 have h:=Box.new (w.alloc (.cells #[va,vf,vp,vc] 35)) 163 Tryz.zeroCells163
 rw [World.size_alloc] at h
 exact⟨(Box.new w _ _).alloc _,⟨_,zu6,h,fun j hj=>by rw [zk16 j hj];simp⟩,by omega,Nat.le_refl _,by omega,zn1 w _ _⟩
set_option maxRecDepth 100000 in
set_option maxHeartbeats 4000000 in
theorem zd15 (A1 A2 A4:Option Addr) (a c1 f c2 c c4:Nat) (l:List (ByteArray × Int × Int)) (hm:l.length≤1000000) (hc:c≤1024) (vp:Value) (w:World) (hv:PredsAt w vp l) :
  Calls Tryz.prog 49 #[.agg #[.slice A1 a c1,.slice A2 f c2,vp,.slice A4 c c4]] w fun e w'=>e=.returned (.bool (entsOk c (l.map entOf)))∧Below w.heap.size w w':=by
 obtain⟨A3,c3,rfl⟩:=CellsAt.form hv
 have HV:=hD hv
 clear hv
 go_enter Tryz.func49,Tryz.ntmps49
 go_upto_region 2 with(fail)
 have E0:=hD (en_start w (.slice A1 a c1) (.slice A2 f c2) (.slice A3 l.length c3) (.slice A4 c c4))
 obtain⟨w0,hw0⟩:∃ w0,(w.alloc (.cells #[.slice A1 a c1,.slice A2 f c2,.slice A3 l.length c3,.slice A4 c c4] 35)).alloc (.cells Tryz.zeroCells163 163)=w0:=⟨_,rfl⟩
 rw [hw0] at E0 ⊢
 obtain⟨g2,hg2⟩:∃ g2,w.heap.size+1=g2:=⟨_,rfl⟩
 rw [hg2] at E0 ⊢
 obtain⟨g1,hg1⟩:∃ g1,w.heap.size=g1:=⟨_,rfl⟩
 rw [hg1] at E0 ⊢
 clear hw0 hg2 hg1
 have q2:=E0.out.ob.cell 2
 go_wp2
 clear q2
 go_loopw [9] (fun i wr=>∃ k:Nat,k≤l.length∧i=.int .i64 k∧Hid (EntsTo c ((l.map entOf).take k))∧Hid (En w wr g1 g2 (.slice A1 a c1) (.slice A2 f c2) (.slice A3 l.length c3) (.slice A4 c c4) ((l.map entOf).take k))) (fun i _=>l.length - (intOf i).toNat)
 case atStart=>exact⟨0,by omega,rfl,hD (zu16 c),E0⟩
 case round=>
  obtain⟨k,hk,rfl,HT,HE⟩:=hrel
  clear E0
  by_cases hlt:k<l.length
  ·obtain⟨b,off,rfl,hb,hc0,hc1,hc2⟩:=zq1 HV.out k hlt
   have d0:=(HE.out.below.cell (p:=⟨b,off+k * 3,none⟩) hb).trans hc0
   have d1:=(HE.out.below.cell (p:=⟨b,off+k * 3+1,none⟩) hb).trans hc1
   have d2:=(HE.out.below.cell (p:=⟨b,off+k * 3+2,none⟩) hb).trans hc2
   have hkl:k<(l.map entOf).length:=by rw [List.length_map];exact hlt
   have hge:(l.map entOf)[k]=l[k].2.2:=by rw [List.getElem_map];rfl
   have HTK:Hid ((l.map entOf).take (k+1)=(l.map entOf).take k ++ [l[k].2.2]):=hD (by rw [List.take_succ_eq_append_getElem hkl,hge])
   have HBAD:Hid (entryOk c l[k].2.2=false→entsOk c (l.map entOf)=false):=hD (fun h=>zt16 hkl (by rw [hge];exact h))
   have HTW:Hid (l[k].2.2≠65535→l[k].2.2 ∈ (l.map entOf).take k→entsOk c (l.map entOf)=false):=hD (fun h1 h2=>zx10 hkl (by rw [hge];exact h1) (by rw [hge];exact h2))
   clear hc0 hc1 hc2 hge hkl
   generalize l[k].1=s at d0
   generalize l[k].2.1=n at d1
   generalize l[k].2.2=e at d2 HTK HBAD HTW
   have HE2:=hD (HE.out.alloc (.cells #[.string s,.int .i64 n,.int .i64 e] 64))
   by_cases hn:e=65535
   ·subst hn
    have HN1:Hid (EntsTo c ((l.map entOf).take (k+1))):=hD (by rw [HTK.out];exact ze13 HT.out)
    have HN2:=hD (HE2.out.same (es':=(l.map entOf).take (k+1)) (fun j hj=>by rw [HTK.out];simp;omega))
    go_wp2
    go_roundw
    case rel=>exact⟨k+1,by omega,by go_num,HN1,HN2⟩
    case measure=>simp [intOf];omega
   ·have hne:(e == 65535)=false:=by simpa using hn
    have x3:=(HE.out.ob.alloc (.cells #[.string s,.int .i64 n,.int .i64 e] 64)).cell 3
    by_cases hin:0≤e∧e<(c:Int)
    ·obtain⟨m,rfl⟩:=Int.eq_ofNat_of_zero_le hin.1
     have hmc:m<c:=by omega
     have hm1024:m<1024:=by omega
     obtain⟨y0,y1⟩:=HE2.out.cell m hm1024
     have hwi:=fun w=>(zw2 (m:Int) (c:Int) w).mono (R':=fun e w'=>e=.returned (.bool true)∧w=w') (fun e w' h=>⟨by rw [h.1,decide_eq_true hin],h.2⟩)
     have HWI:=hD hwi
     have z1:(m:Int)<1024:=by omega
     have z2:(0:Int)≤(m:Int):=by omega
     have HSET:=hD (HE2.out.set m hm1024)
     clear hin hwi
     by_cases ht:(m:Int) ∈ (l.map entOf).take k
     ·rw [decide_eq_true ht] at y0
      have HX:=hD (HTW.out hn ht)
      clear ht hn
      go_wp2_with (go_at_call 86;refine(HWI.out _).mono ?_;rintro e w' ⟨rfl,rfl⟩)
      go_ret
      exact⟨by rw [HX.out];rfl,HE2.out.below⟩
     ·rw [decide_eq_false ht] at y0
      have HN1:Hid (EntsTo c ((l.map entOf).take (k+1))):=hD (by rw [HTK.out];exact zg13 HT.out hmc ht)
      rw [← HTK.out] at HSET
      clear ht hn
      go_wp2_with (go_at_call 86;refine(HWI.out _).mono ?_;rintro e w' ⟨rfl,rfl⟩)
      go_roundw
      case rel=>exact⟨k+1,by omega,by go_num,HN1,HSET⟩
      case measure=>simp [intOf];omega
    ·have hwi:=fun w=>(zw2 e (c:Int) w).mono (R':=fun e w'=>e=.returned (.bool false)∧w=w') (fun e w' h=>⟨by rw [h.1,decide_eq_false hin],h.2⟩)
     have HWI:=hD hwi
     have HX:=hD (HBAD.out (by unfold entryOk;rw [decide_eq_false_iff_not];omega))
     clear hwi hin hn
     go_wp2_with (go_at_call 86;refine(HWI.out _).mono ?_;rintro e w' ⟨rfl,rfl⟩)
     go_ret
     exact⟨by rw [HX.out];rfl,HE2.out.below⟩
  ·obtain rfl:k=l.length:=by omega
   have HX:Hid (entsOk c (l.map entOf)=true):=hD (by
    have h:=HT.out
    rw [List.take_of_length_le (by simp)] at h
    exact zs16 h)
   go_wp2
   go_ret
   exact⟨by rw [HX.out];rfl,HE.out.below⟩
end Go.Proofs.YtlmbiafloiompaaGreatDoor

namespace Go.Proofs.YtlmbiafloiompaaGreatDoor
open Go Go.RowKit Go.WideShapes Go.ChangeShapes
set_option linter.unusedVariables false
set_option linter.unusedSimpArgs false
structure ObWf (o:Ob):Prop where
 atoms:∀ s ∈ o.atoms,s.size≤maxLen
 funs:∀ f ∈ o.funs,f.1.size≤maxLen
 preds:∀ p ∈ o.preds,p.1.size≤maxLen
 la:o.atoms.length≤1000000
 lf:o.funs.length≤1000000
 lp:o.preds.length≤1000000
 lc:o.code.length≤1000000
structure CkB (w wr:World) (g:Nat) (va vf vp vc:Value):Prop where
 ob:Box wr g 35 #[va,vf,vp,vc]
 below:Below w.heap.size w wr
theorem CkB.up {w wr w':World} {g:Nat} {va vf vp vc:Value} (h:CkB w wr g va vf vp vc) (hb:Below wr.heap.size wr w'):CkB w w' g va vf vp vc:=⟨h.ob.below hb h.ob.lt,h.below.trans (hb.mono h.below.size)⟩
theorem CkB.cells {w wr:World} {g:Nat} {va vf vp vc:Value} (h:CkB w wr g va vf vp vc):wr.cell? ⟨g,0,none⟩=some va∧wr.cell? ⟨g,1,none⟩=some vf∧wr.cell? ⟨g,2,none⟩=some vp∧wr.cell? ⟨g,3,none⟩=some vc:=
 ⟨h.ob.cell 0,h.ob.cell 1,h.ob.cell 2,h.ob.cell 3⟩
theorem wf_small {n:Int} (h0:0≤n) (h1:n≤8):(Lit.int .i64 n).wf=true:=by
 have:n=0 ∨ n=1 ∨ n=2 ∨ n=3 ∨ n=4 ∨ n=5 ∨ n=6 ∨ n=7 ∨ n=8:=by omega
 rcases this with rfl | rfl | rfl | rfl | rfl | rfl | rfl | rfl | rfl <;> rfl
theorem zy16 {least:Int} (h0:0≤least) {l:List (ByteArray × Int)} (hs:∀ f ∈ l,f.1.size≤maxLen) (h:l.all (funOk least)=true):∀ f ∈ l,f.1.size≤maxLen∧(Lit.int .i64 f.2).wf=true:=by
 intro f hf
 have h1:=List.all_eq_true.1 h f hf
 unfold funOk at h1
 simp only [Bool.and_eq_true,decide_eq_true_eq] at h1
 exact⟨hs f hf,wf_small (by omega) h1.2⟩
theorem zo7 {o:Ob} (h:ObWf o):∀ f ∈ o.preds.map called,f.1.size≤maxLen:=by
 intro f hf
 obtain⟨p,hp,rfl⟩:=List.mem_map.1 hf
 exact h.preds p hp
theorem ne_zero {n:Int} (h:n≠0):(n != 0)=true:=by simpa using h
theorem zp7 (a f p c:Nat) (l:List Ins) (k:Nat) (h:k<l.length):codeErr a f p c (l.drop k)=if insErr a f p c l[k]=0 then codeErr a f p c (l.drop (k+1)) else insErr a f p c l[k]:=by
 rw [List.drop_eq_getElem_cons h,codeErr]
set_option maxRecDepth 100000 in
set_option maxHeartbeats 8000000 in
theorem check_any (o:Ob) (ho:ObWf o) (va vf vp vc:Value) (w:World) (hw:NamesAt w) (hv:ObAt w va vf vp vc o) :
  Calls Tryz.prog 22 #[.agg #[va,vf,vp,vc]] w fun e w'=>e=.returned (.int .i64 (checkOf o))∧Below w.heap.size w w':=by
 obtain⟨A1,c1,rfl⟩:=CellsAt.form hv.atoms
 obtain⟨A2,c2,rfl⟩:=CellsAt.form hv.funs
 obtain⟨A3,c3,rfl⟩:=CellsAt.form hv.preds
 obtain⟨A4,c4,rfl⟩:=CellsAt.form hv.code
 have HV:=hD hv
 have HW:=hD hw
 have HWF:=hD ho
 have HK0:=hD (⟨Box.new w _ _,zc w _⟩:CkB w (w.alloc (.cells #[.slice A1 o.atoms.length c1,.slice A2 o.funs.length c2,.slice A3 o.preds.length c3,.slice A4 o.code.length c4] 35)) w.heap.size (.slice A1 o.atoms.length c1) (.slice A2 o.funs.length c2) (.slice A3 o.preds.length c3) (.slice A4 o.code.length c4))
 have HL:Hid (o.atoms.length≤1000000∧o.funs.length≤1000000∧o.preds.length≤1000000∧o.code.length≤1000000):=hD ⟨ho.la,ho.lf,ho.lp,ho.lc⟩
 have HFULL:=hD (fun w=>full_any o.atoms.length o.funs.length o.preds.length o.code.length w)
 have HCH:Hid (checkOf o=if bigB o.atoms.length o.funs.length o.preds.length o.code.length then 2 else if namesOk o=false then 7 else if dupB o then 11 else if entsOk o.code.length (o.preds.map entOf)=false then 7 else codeErr o.atoms.length o.funs.length o.preds.length o.code.length o.code):=hD rfl
 generalize checkOf o=ck at HCH
 have HMA:=hD ho.la
 have HMF:=hD ho.lf
 have HMP:=hD ho.lp
 have HMC:=hD ho.lc
 clear hv hw ho
 cases hbig:bigB o.atoms.length o.funs.length o.preds.length o.code.length
 case true=>
  have HX:Hid (ck=2):=hD (by rw [HCH.out,hbig];rfl)
  rw [hbig] at HFULL
  clear hbig
  go_enter Tryz.func22,Tryz.ntmps22
  go_wp2_with (go_at_call 43;refine(HFULL.out _).mono ?_;rintro e w' ⟨rfl,rfl⟩)
  go_ret
  exact⟨by rw [HX.out];rfl,HK0.out.below⟩
 case false=>
  have hc1024:o.code.length≤1024:=by
   unfold bigB at hbig
   rw [decide_eq_false_iff_not] at hbig
   omega
  have HC1024:=hD hc1024
  have HCH2:Hid (ck=if namesOk o=false then 7 else if dupB o then 11 else if entsOk o.code.length (o.preds.map entOf)=false then 7 else codeErr o.atoms.length o.funs.length o.preds.length o.code.length o.code):=hD (by rw [HCH.out,hbig];rfl)
  rw [hbig] at HFULL
  clear hbig HCH hc1024
  go_enter Tryz.func22,Tryz.ntmps22
  go_upto_region 3 with(go_at_call 43;refine(HFULL.out _).mono ?_;rintro e w' ⟨rfl,rfl⟩)
  obtain⟨w1,hw1⟩:∃ w1,w.alloc (.cells #[.slice A1 o.atoms.length c1,.slice A2 o.funs.length c2,.slice A3 o.preds.length c3,.slice A4 o.code.length c4] 35)=w1:=⟨_,rfl⟩
  rw [hw1] at HK0 ⊢
  obtain⟨g,hg⟩:∃ g,w.heap.size=g:=⟨_,rfl⟩
  rw [hg] at HK0 ⊢
  have HG:=hD hg
  clear hw1 hg
  have HK:=HK0
  obtain⟨q0,q1,q2,q3⟩:=HK.out.cells
  clear HK0
  have hNA:=fun(w':World) v h=>zw12 o.atoms HWF.out.atoms HMA.out v w' h
  have hF1:=fun(w':World) v h=>zq8 1 o.funs HWF.out.funs HMF.out v w' h
  have hF0:=fun(w':World) v h=>zq8 0 (o.preds.map called) (zo7 HWF.out) (by rw [List.length_map];exact HMP.out) v w' h
  have HNO:Hid (namesOk o=(o.atoms.all nameOk && o.funs.all (funOk 1) && (o.preds.map called).all (funOk 0))):=hD rfl
  cases h1:o.atoms.all nameOk
  case false=>
   rw [h1] at hNA
   have HNA:=hD hNA
   have HX:Hid (ck=7):=hD (by rw [HCH2.out,HNO.out,h1];rfl)
   clear hNA hF1 hF0 h1
   go_wp2_with (go_at_call 44;refine(HNA.out _ _ (HV.out.below HK.out.below).atoms).mono ?_;rintro e w' ⟨rfl,rfl⟩)
   go_ret
   exact⟨by rw [HX.out];rfl,HK.out.below⟩
  case true=>
  rw [h1] at hNA
  have HNA:=hD hNA
  cases h2:o.funs.all (funOk 1)
  case false=>
   rw [h2] at hF1
   have HF1:=hD hF1
   have HX:Hid (ck=7):=hD (by rw [HCH2.out,HNO.out,h1,h2];rfl)
   clear hNA hF1 hF0 h1 h2
   go_wp2_with (first
    | (go_at_call 44;refine(HNA.out _ _ (HV.out.below HK.out.below).atoms).mono ?_;rintro e w' ⟨rfl,rfl⟩)
    | (go_at_call 45;(with_reducible refine(HF1.out _ _ (HV.out.below HK.out.below).funs).mono ?_);rintro e w5 ⟨rfl,hb5⟩;replace HK:=hD (HK.out.up hb5);obtain⟨q0,q1,q2,q3⟩:=HK.out.cells;clear hb5))
   go_ret
   exact⟨by rw [HX.out];rfl,HK.out.below⟩
  case true=>
  rw [h2] at hF1
  have HF1:=hD hF1
  cases h3:(o.preds.map called).all (funOk 0)
  case false=>
   rw [h3] at hF0
   have HF0:=hD hF0
   have HX:Hid (ck=7):=hD (by rw [HCH2.out,HNO.out,h1,h2,h3];rfl)
   clear hNA hF1 hF0 h1 h2 h3
   go_wp2_with (first
    | (go_at_call 44;refine(HNA.out _ _ (HV.out.below HK.out.below).atoms).mono ?_;rintro e w' ⟨rfl,rfl⟩)
    | (go_at_call 45;(with_reducible refine(HF1.out _ _ (HV.out.below HK.out.below).funs).mono ?_);rintro e w5 ⟨rfl,hb5⟩;replace HK:=hD (HK.out.up hb5);obtain⟨q0,q1,q2,q3⟩:=HK.out.cells;clear hb5)
    | (go_at_call 46;(with_reducible refine(zv4 o.preds HMP.out _ _ (HV.out.below HK.out.below).preds).mono ?_);rintro e w5 ⟨v5,rfl,hv5,hb5⟩;have HV5:=hD hv5;clear hv5;replace HK:=hD (HK.out.up hb5);obtain⟨q0,q1,q2,q3⟩:=HK.out.cells;clear hb5)
    | (go_at_call 45;refine(HF0.out _ _ HV5.out).mono ?_;rintro e w5 ⟨rfl,hb5⟩;replace HK:=hD (HK.out.up hb5);obtain⟨q0,q1,q2,q3⟩:=HK.out.cells;clear hb5))
   go_ret
   exact⟨by rw [HX.out];rfl,HK.out.below⟩
  case true=>
  rw [h3] at hF0
  have HF0:=hD hF0
  have hTS:=fun(w':World) v h=>zv19 o.atoms HWF.out.atoms HMA.out v w' h
  have hT1:=fun(w':World) v h=>zu11 o.funs (zy16 (by decide) HWF.out.funs h2) HMF.out v w' h
  have hT0:=fun(w':World) v h=>zu11 (o.preds.map called) (zy16 (by decide) (zo7 HWF.out) h3) (by rw [List.length_map];exact HMP.out) v w' h
  have HCH3:Hid (ck=if dupB o then 11 else if entsOk o.code.length (o.preds.map entOf)=false then 7 else codeErr o.atoms.length o.funs.length o.preds.length o.code.length o.code):=hD (by rw [HCH2.out,HNO.out,h1,h2,h3];rfl)
  have HDO:Hid (dupB o=(twiceB o.atoms || twiceB o.funs || twiceB (o.preds.map called))):=hD rfl
  clear hNA hF1 hF0 h1 h2 h3 HNO HCH2
  go_upto_region 5 with(first
    | (go_at_call 44;refine(HNA.out _ _ (HV.out.below HK.out.below).atoms).mono ?_;rintro e w' ⟨rfl,rfl⟩)
    | (go_at_call 45;(with_reducible refine(HF1.out _ _ (HV.out.below HK.out.below).funs).mono ?_);rintro e w5 ⟨rfl,hb5⟩;replace HK:=hD (HK.out.up hb5);obtain⟨q0,q1,q2,q3⟩:=HK.out.cells;clear hb5)
    | (go_at_call 46;(with_reducible refine(zv4 o.preds HMP.out _ _ (HV.out.below HK.out.below).preds).mono ?_);rintro e w5 ⟨v5,rfl,hv5,hb5⟩;have HV5:=hD hv5;clear hv5;replace HK:=hD (HK.out.up hb5);obtain⟨q0,q1,q2,q3⟩:=HK.out.cells;clear hb5)
    | (go_at_call 45;refine(HF0.out _ _ HV5.out).mono ?_;rintro e w5 ⟨rfl,hb5⟩;replace HK:=hD (HK.out.up hb5);obtain⟨q0,q1,q2,q3⟩:=HK.out.cells;clear hb5))
  clear HNA HF1 HF0 HFULL
  cases h1:twiceB o.atoms
  case true=>
   rw [h1] at hTS
   have HTS:=hD hTS
   have HX:Hid (ck=11):=hD (by rw [HCH3.out,HDO.out,h1];rfl)
   clear hTS hT1 hT0 h1
   go_wp2_with (go_at_call 47;(with_reducible refine(HTS.out _ _ (HV.out.below HK.out.below).atoms).mono ?_);rintro e w5 ⟨rfl,hb5⟩;replace HK:=hD (HK.out.up hb5);obtain⟨q0,q1,q2,q3⟩:=HK.out.cells;clear hb5)
   go_ret
   exact⟨by rw [HX.out];rfl,HK.out.below⟩
  case false=>
  rw [h1] at hTS
  have HTS:=hD hTS
  cases h2:twiceB o.funs
  case true=>
   rw [h2] at hT1
   have HT1:=hD hT1
   have HX:Hid (ck=11):=hD (by rw [HCH3.out,HDO.out,h1,h2];rfl)
   clear hTS hT1 hT0 h1 h2
   go_wp2_with (first
    | (go_at_call 47;(with_reducible refine(HTS.out _ _ (HV.out.below HK.out.below).atoms).mono ?_);rintro e w5 ⟨rfl,hb5⟩;replace HK:=hD (HK.out.up hb5);obtain⟨q0,q1,q2,q3⟩:=HK.out.cells;clear hb5)
    | (go_at_call 48;(with_reducible refine(HT1.out _ _ (HV.out.below HK.out.below).funs).mono ?_);rintro e w5 ⟨rfl,hb5⟩;replace HK:=hD (HK.out.up hb5);obtain⟨q0,q1,q2,q3⟩:=HK.out.cells;clear hb5))
   go_ret
   exact⟨by rw [HX.out];rfl,HK.out.below⟩
  case false=>
  rw [h2] at hT1
  have HT1:=hD hT1
  cases h3:twiceB (o.preds.map called)
  case true=>
   rw [h3] at hT0
   have HT0:=hD hT0
   have HX:Hid (ck=11):=hD (by rw [HCH3.out,HDO.out,h1,h2,h3];rfl)
   clear hTS hT1 hT0 h1 h2 h3
   go_wp2_with (first
    | (go_at_call 47;(with_reducible refine(HTS.out _ _ (HV.out.below HK.out.below).atoms).mono ?_);rintro e w5 ⟨rfl,hb5⟩;replace HK:=hD (HK.out.up hb5);obtain⟨q0,q1,q2,q3⟩:=HK.out.cells;clear hb5)
    | (go_at_call 48;(with_reducible refine(HT1.out _ _ (HV.out.below HK.out.below).funs).mono ?_);rintro e w5 ⟨rfl,hb5⟩;replace HK:=hD (HK.out.up hb5);obtain⟨q0,q1,q2,q3⟩:=HK.out.cells;clear hb5)
    | (go_at_call 46;(with_reducible refine(zv4 o.preds HMP.out _ _ (HV.out.below HK.out.below).preds).mono ?_);rintro e w5 ⟨v5,rfl,hv5,hb5⟩;have HV5:=hD hv5;clear hv5;replace HK:=hD (HK.out.up hb5);obtain⟨q0,q1,q2,q3⟩:=HK.out.cells;clear hb5)
    | (go_at_call 48;refine(HT0.out _ _ HV5.out).mono ?_;rintro e w5 ⟨rfl,hb5⟩;replace HK:=hD (HK.out.up hb5);obtain⟨q0,q1,q2,q3⟩:=HK.out.cells;clear hb5))
   go_ret
   exact⟨by rw [HX.out];rfl,HK.out.below⟩
  case false=>
  rw [h3] at hT0
  have HT0:=hD hT0
  have HCH4:Hid (ck=if entsOk o.code.length (o.preds.map entOf)=false then 7 else codeErr o.atoms.length o.funs.length o.preds.length o.code.length o.code):=hD (by rw [HCH3.out,HDO.out,h1,h2,h3];rfl)
  have hEN:=fun(w':World) h=>zd15 A1 A2 A4 o.atoms.length c1 o.funs.length c2 o.code.length c4 o.preds HMP.out HC1024.out (.slice A3 o.preds.length c3) w' h
  clear hTS hT1 hT0 h1 h2 h3 HDO HCH3
  go_upto_region 7 with(first
    | (go_at_call 47;(with_reducible refine(HTS.out _ _ (HV.out.below HK.out.below).atoms).mono ?_);rintro e w5 ⟨rfl,hb5⟩;replace HK:=hD (HK.out.up hb5);obtain⟨q0,q1,q2,q3⟩:=HK.out.cells;clear hb5)
    | (go_at_call 48;(with_reducible refine(HT1.out _ _ (HV.out.below HK.out.below).funs).mono ?_);rintro e w5 ⟨rfl,hb5⟩;replace HK:=hD (HK.out.up hb5);obtain⟨q0,q1,q2,q3⟩:=HK.out.cells;clear hb5)
    | (go_at_call 46;(with_reducible refine(zv4 o.preds HMP.out _ _ (HV.out.below HK.out.below).preds).mono ?_);rintro e w5 ⟨v5,rfl,hv5,hb5⟩;have HV5:=hD hv5;clear hv5;replace HK:=hD (HK.out.up hb5);obtain⟨q0,q1,q2,q3⟩:=HK.out.cells;clear hb5)
    | (go_at_call 48;refine(HT0.out _ _ HV5.out).mono ?_;rintro e w5 ⟨rfl,hb5⟩;replace HK:=hD (HK.out.up hb5);obtain⟨q0,q1,q2,q3⟩:=HK.out.cells;clear hb5))
  clear HTS HT1 HT0
  cases h1:entsOk o.code.length (o.preds.map entOf)
  case false=>
   rw [h1] at hEN
   have HEN:=hD hEN
   have HX:Hid (ck=7):=hD (by rw [HCH4.out,h1];rfl)
   clear hEN h1
   go_wp2_with (go_at_call 49;refine(HEN.out _ (HV.out.below HK.out.below).preds).mono ?_;rintro e w5 ⟨rfl,hb5⟩;replace HK:=hD (HK.out.up hb5);obtain⟨q0,q1,q2,q3⟩:=HK.out.cells;clear hb5)
   go_ret
   exact⟨by rw [HX.out];rfl,HK.out.below⟩
  case true=>
  rw [h1] at hEN
  have HEN:=hD hEN
  have HCH5:Hid (ck=codeErr o.atoms.length o.funs.length o.preds.length o.code.length o.code):=hD (by rw [HCH4.out,h1];rfl)
  clear hEN h1 HCH4
  go_upto_region 9 with(go_at_call 49;refine(HEN.out _ (HV.out.below HK.out.below).preds).mono ?_;rintro e w5 ⟨rfl,hb5⟩;replace HK:=hD (HK.out.up hb5);obtain⟨q0,q1,q2,q3⟩:=HK.out.cells;clear hb5)
  clear HEN
  go_wp2
  go_loopw [66] (fun i wr=>∃ k:Nat,k≤o.code.length∧i=.int .i64 k∧Hid (CkB w wr g (.slice A1 o.atoms.length c1) (.slice A2 o.funs.length c2) (.slice A3 o.preds.length c3) (.slice A4 o.code.length c4))∧Hid (codeErr o.atoms.length o.funs.length o.preds.length o.code.length (o.code.drop k)=ck)) (fun i _=>o.code.length - (intOf i).toNat)
  case atStart=>exact⟨0,by omega,rfl,HK,hD (by rw [HCH5.out];rfl)⟩
  case round=>
   obtain⟨k,hk,rfl,HKR,HCE⟩:=hrel
   clear q0 q1 q2 q3 HK
   have hlc:=HMC.out
   by_cases hlt:k<o.code.length
   ·obtain⟨b,off,rfl,hb,hc0,hc1,hc2,hc3,hc4⟩:=zl5 HV.out.code k hlt
    have d0:=(HKR.out.below.cell (p:=⟨b,off+k * 5,none⟩) hb).trans hc0
    have d1:=(HKR.out.below.cell (p:=⟨b,off+k * 5+1,none⟩) hb).trans hc1
    have d2:=(HKR.out.below.cell (p:=⟨b,off+k * 5+2,none⟩) hb).trans hc2
    have d3:=(HKR.out.below.cell (p:=⟨b,off+k * 5+3,none⟩) hb).trans hc3
    have d4:=(HKR.out.below.cell (p:=⟨b,off+k * 5+4,none⟩) hb).trans hc4
    have HST:=hD (zp7 o.atoms.length o.funs.length o.preds.length o.code.length o.code k hlt)
    have hCI:=fun w' hw=>zk10 A1 A2 A3 (some ⟨b,off,none⟩) o.atoms.length c1 o.funs.length c2 o.preds.length c3 o.code.length c4 o.code[k] w' hw
    clear hc0 hc1 hc2 hc3 hc4
    generalize insErr o.atoms.length o.funs.length o.preds.length o.code.length o.code[k]=ie at HST hCI
    generalize o.code[k].1=i0 at d0 hCI
    generalize o.code[k].2.1=i1 at d1 hCI
    generalize o.code[k].2.2.1=i2 at d2 hCI
    generalize o.code[k].2.2.2.1=i3 at d3 hCI
    generalize o.code[k].2.2.2.2=i4 at d4 hCI
    have HKA:=hD (HKR.out.up (zc wr (.cells #[.int .i64 i0,.int .i64 i1,.int .i64 i2,.int .i64 i3,.int .i64 i4] 65)))
    have HNM:=hD (HW.out.below HKA.out.below HW.out.lt)
    obtain⟨r0,r1,r2,r3⟩:=HKA.out.cells
    have HCI:=hD hCI
    clear hCI
    by_cases hz:ie=0
    ·subst hz
     have HCE2:Hid (codeErr o.atoms.length o.funs.length o.preds.length o.code.length (o.code.drop (k+1))=ck):=hD (by rw [← HCE.out,HST.out,if_pos rfl])
     go_wp2_with (go_at_call 50;refine(HCI.out _ HNM.out).mono ?_;rintro e w5 ⟨rfl,hb5⟩;have HK5:=hD (HKA.out.up hb5);clear hb5)
     go_roundw
     case rel=>exact⟨k+1,by omega,by go_num,HK5,HCE2⟩
     case measure=>simp [intOf];omega
    ·have HX:Hid (ck=ie):=hD (by rw [← HCE.out,HST.out,if_neg hz])
     have hnz:=ne_zero hz
     have hnz2:(ie == 0)=false:=by simpa using hz
     clear hz
     go_wp2_with (go_at_call 50;refine(HCI.out _ HNM.out).mono ?_;rintro e w5 ⟨rfl,hb5⟩;have HK5:=hD (HKA.out.up hb5);clear hb5)
     go_ret
     exact⟨by rw [HX.out];rfl,HK5.out.below⟩
   ·obtain rfl:k=o.code.length:=by omega
    have HX:Hid (ck=0):=hD (by rw [← HCE.out,List.drop_length];rfl)
    go_wp2
    go_ret
    exact⟨by rw [HX.out];rfl,HKR.out.below⟩
end Go.Proofs.YtlmbiafloiompaaGreatDoor

namespace Go.Proofs.YtlmbiafloiompaaGreatDoor
open Go Go.RowKit Go.WideShapes Go.ChangeShapes
set_option linter.unusedVariables false
def BysAt (w:World) (v:Value) (l:List Nat):Prop:=
 (l=[]∧∃ A c,v=.slice A 0 c) ∨
  ∃ b off c,v=.slice (some ⟨b,off,none⟩) l.length c∧∀ k,k<l.length→w.cell? ⟨b,off+k,none⟩=some (.int .u8 ((l.getD k 0:Nat):Int))
end Go.Proofs.YtlmbiafloiompaaGreatDoor

namespace Go.Proofs.YtlmbiafloiompaaGreatDoor
open Go Go.RowKit Go.WideShapes Go.ChangeShapes
set_option linter.unusedVariables false
set_option linter.unusedSimpArgs false
def bysV (l:List Nat):List Value:=l.map fun c=>Value.int .u8 ((c:Nat):Int)
def Strict (w:World) (base:Nat) (v:Value) (l:List Nat):Prop:=w.ownsRow base 5 1 v l.length (bysV l)
def Marked (w:World) (base:Nat) (v:Value) (l:List Nat):Prop:=
 0<l.length∧∃ g cur fz,v=.slice (some ⟨g,0,none⟩) l.length l.length∧base≤g∧w.heap[g]?=some (.cells cur 5 fz)∧cur.toList=bysV l
def Row (w:World) (base:Nat) (v:Value) (l:List Nat):Prop:=Strict w base v l ∨ Marked w base v l
theorem Row.ge {w:World} {base:Nat} {v:Value} {l:List Nat} (h:Row w base v l) {b:Nat} (hb:v.ownBlock=some b):base≤b∧b<w.heap.size:=by
 rcases h with h | ⟨_,g,cur,fz,rfl,hg,hh,_⟩
 ·exact own_ge h hb
 ·obtain rfl:g=b:=by simpa [Value.ownBlock] using hb
  exact⟨hg,(Array.getElem?_eq_some_iff.1 hh).1⟩
theorem Row.form {w:World} {base:Nat} {v:Value} {l:List Nat} (h:Row w base v l):∃ A c,v=.slice A l.length c:=by
 rcases h with h | ⟨_,g,cur,fz,rfl,_⟩
 ·obtain⟨A,c,h,_⟩:=zc1 h
  exact⟨A,c,h⟩
 ·exact⟨_,_,rfl⟩
theorem Row.fr {w w':World} {S:Nat→Prop} {base:Nat} {v:Value} {l:List Nat} (h:Row w base v l) (hf:Fr S w w') (hn:∀ k,v.ownBlock=some k→¬ S k):Row w' base v l:=by
 rcases h with h | ⟨h0,g,cur,fz,rfl,hg,hh,hc⟩
 ·exact .inl (own_fr h hf hn)
 ·exact .inr ⟨h0,g,cur,fz,rfl,hg,(hf.block g (Array.getElem?_eq_some_iff.1 hh).1 (hn g rfl)).trans hh,hc⟩
structure Grows (w w':World) (base:Nat) (v v':Value) (l:List Nat):Prop where
 own:Row w' base v' l
 fr:Fr (fun b=>v.ownBlock=some b) w w'
 at_:v'.ownBlock=v.ownBlock ∨ ∃ g,v'.ownBlock=some g∧w.heap.size≤g
theorem Grows.refl {w:World} {base:Nat} {v:Value} {l:List Nat} (h:Row w base v l):Grows w w base v v l:=⟨h,Fr.refl _ _,.inl rfl⟩
theorem Grows.trans {w w' w'':World} {base:Nat} {v v' v'':Value} {l m:List Nat} (h:Grows w w' base v v' l) (k:Grows w' w'' base v' v'' m):Grows w w'' base v v'' m:=by
 refine⟨k.own,⟨k.fr.os.trans h.fr.os,k.fr.tape.trans h.fr.tape,k.fr.output.trans h.fr.output,Nat.le_trans h.fr.size k.fr.size,fun i hi hs=>(k.fr.block i (Nat.lt_of_lt_of_le hi h.fr.size) (fun hv=>?_)).trans (h.fr.block i hi hs)⟩,?_⟩
 ·rcases h.at_ with e2 | ⟨g,e2,hg⟩
  ·exact hs (e2.symm.trans hv)
  ·rw [e2] at hv
   injection hv with hv
   omega
 ·rcases k.at_ with e1 | ⟨g,e1,hg⟩
  ·rcases h.at_ with e2 | ⟨g,e2,hg⟩
   ·exact .inl (e1.trans e2)
   ·exact .inr ⟨g,e1.trans e2,hg⟩
  ·exact .inr ⟨g,e1,Nat.le_trans h.fr.size hg⟩
theorem Grows.form {w w':World} {base:Nat} {v v':Value} {l:List Nat} (h:Grows w w' base v v' l):∃ A c,v'=.slice A l.length c:=by
 exact h.own.form
theorem Grows.below {w w':World} {base:Nat} {v v':Value} {l m:List Nat} (h:Grows w w' base v v' l) (ho:Row w base v m) (hb:base≤w.heap.size):Below base w w':=
 h.fr.below hb (fun k hk=>(ho.ge hk).1)
theorem Row.alloc {w:World} {base:Nat} {v:Value} {l:List Nat} (h:Row w base v l) (o:Obj):Row (w.alloc o) base v l:=Row.fr (S:=fun _=>False) h ((Fr.refl _ w).alloc _) (fun _ _ x=>x)
theorem Row.below {w w':World} {base:Nat} {v:Value} {l:List Nat} (h:Row w base v l) (hb:Below w.heap.size w w'):Row w' base v l:=Row.fr (S:=fun _=>False) h (Fr.of_below hb) (fun _ _ x=>x)
end Go.Proofs.YtlmbiafloiompaaGreatDoor

namespace Go.Proofs.YtlmbiafloiompaaGreatDoor
open Go Go.RowKit Go.WideShapes Go.ChangeShapes
set_option linter.unusedVariables false
set_option linter.unusedSimpArgs false
theorem Grows.of_below {w w1 w':World} {base:Nat} {v v':Value} {l:List Nat} (hb:Below w.heap.size w w1) (h:Grows w1 w' base v v' l):Grows w w' base v v' l:=
 ⟨h.own,(Fr.of_below hb).trans h.fr,h.at_.imp id fun⟨g,h1,h2⟩=>⟨g,h1,Nat.le_trans hb.size h2⟩⟩
theorem Grows.box {w w':World} {base:Nat} {v v':Value} {l:List Nat} (h:Grows w w' base v v' l) {g:Nat} {t:TypeId} {cs:Array Value} (hb:Box w g t cs) (hn:v.ownBlock≠some g):Box w' g t cs∧v'.ownBlock≠some g:=by
 refine⟨hb.fr h.fr hn,?_⟩
 rcases h.at_ with e | ⟨g',e,hg⟩
 ·rw [e];exact hn
 ·rw [e]
  intro x
  injection x with x
  have:=hb.lt
  omega
end Go.Proofs.YtlmbiafloiompaaGreatDoor

namespace Go.Proofs.YtlmbiafloiompaaGreatDoor
open Go Go.RowKit Go.WideShapes Go.ChangeShapes
set_option linter.unusedVariables false
set_option linter.unusedSimpArgs false
structure ObOk (o:Ob):Prop where
 la:o.atoms.length≤256
 lf:o.funs.length≤256
 lp:o.preds.length≤64
 lc:o.code.length≤1024
 atoms:∀ s ∈ o.atoms,nameOk s=true
 funs:∀ f ∈ o.funs,nameOk f.1=true∧1≤f.2∧f.2≤8
 preds:∀ p ∈ o.preds,nameOk p.1=true∧0≤p.2.1∧p.2.1≤8∧(p.2.2=65535 ∨ (0≤p.2.2∧p.2.2<o.code.length))
 code:∀ i ∈ o.code,insErr o.atoms.length o.funs.length o.preds.length o.code.length i=0
theorem name_size {s:ByteArray} (h:nameOk s=true):1≤s.size∧s.size≤32:=by
 unfold nameOk at h
 simp only [Bool.and_eq_true,decide_eq_true_eq] at h
 exact h.1.1
theorem zq7 {a f p c:Nat}:∀ {l:List Ins},codeErr a f p c l=0→∀ i ∈ l,insErr a f p c i=0
 | [],_=>by simp
 | x :: l,h=>by
  unfold codeErr at h
  split at h
  ·rename_i hx
   intro i hi
   rcases List.mem_cons.1 hi with rfl | hi
   ·exact hx
   ·exact zq7 h i hi
  ·rename_i hx
   exact absurd h hx
theorem ok_of {o:Ob} (h:checkOf o=0):ObOk o:=by
 unfold checkOf at h
 split at h
 ·cases h
 ·rename_i h1
  split at h
  ·cases h
  ·rename_i h2
   split at h
   ·cases h
   ·split at h
    ·cases h
    ·rename_i h4
     have hb:¬ (256<o.atoms.length ∨ 256<o.funs.length ∨ 64<o.preds.length ∨ 1024<o.code.length):=by
      intro hb
      apply h1
      unfold bigB
      exact decide_eq_true hb
     have hn:namesOk o=true:=by
      cases hh:namesOk o
      ·exact absurd hh h2
      ·rfl
     have he:entsOk o.code.length (o.preds.map (·.2.2))=true:=by
      cases hh:entsOk o.code.length (o.preds.map (·.2.2))
      ·exact absurd hh h4
      ·rfl
     unfold namesOk at hn
     simp only [Bool.and_eq_true,List.all_eq_true] at hn
     unfold entsOk at he
     simp only [Bool.and_eq_true,List.all_eq_true] at he
     refine⟨by omega,by omega,by omega,by omega,hn.1.1,fun f hf=>?_,fun p hp=>?_,zq7 h⟩
     ·have:=hn.1.2 f hf
      unfold funOk at this
      simp only [Bool.and_eq_true,decide_eq_true_eq] at this
      exact⟨this.1.1,this.1.2,this.2⟩
     ·have h5:=hn.2 (called p) (List.mem_map_of_mem hp)
      unfold funOk called at h5
      simp only [Bool.and_eq_true,decide_eq_true_eq] at h5
      have h6:=he.1 p.2.2 (List.mem_map.2 ⟨p,hp,rfl⟩)
      unfold entryOk at h6
      exact⟨h5.1.1,h5.1.2,h5.2,of_decide_eq_true h6⟩
end Go.Proofs.YtlmbiafloiompaaGreatDoor

namespace Go.Proofs.YtlmbiafloiompaaGreatDoor
open Go Go.RowKit Go.WideShapes Go.ChangeShapes
set_option linter.unusedVariables false
set_option linter.unusedSimpArgs false
theorem BysAt.below {w w':World} {v:Value} {l:List Nat} (h:BysAt w v l) (hb:Below w.heap.size w w'):BysAt w' v l:=by
 rcases h with h | ⟨b,off,c,rfl,hc⟩
 ·exact .inl h
 ·exact .inr ⟨b,off,c,rfl,fun k hk=>(hb.cell (p:=⟨b,off+k,none⟩) (World.block_lt_of_cell? w _ (hc k hk))).trans (hc k hk)⟩
structure Ec (w wr:World) (g:Nat) (cs:Array Value) (vs:Value) (pre:List Nat):Prop where
 row:Row wr w.heap.size vs pre
 box:Box wr g 35 cs
 ne:vs.ownBlock≠some g
 below:Below w.heap.size w wr
theorem Ec.up {w wr w':World} {g:Nat} {cs:Array Value} {vs v':Value} {pre pre':List Nat} (h:Ec w wr g cs vs pre) (hg:Grows wr w' w.heap.size vs v' pre'):Ec w w' g cs v' pre':=
 ⟨hg.own,(hg.box h.box h.ne).1,(hg.box h.box h.ne).2,h.below.trans (hg.below h.row h.below.size)⟩
theorem Ec.cells {w wr:World} {g:Nat} {a b c d:Value} {vs:Value} {pre:List Nat} (h:Ec w wr g #[a,b,c,d] vs pre):wr.cell? ⟨g,0,none⟩=some a∧wr.cell? ⟨g,1,none⟩=some b∧wr.cell? ⟨g,2,none⟩=some c∧wr.cell? ⟨g,3,none⟩=some d:=
 ⟨h.box.cell 0,h.box.cell 1,h.box.cell 2,h.box.cell 3⟩
end Go.Proofs.YtlmbiafloiompaaGreatDoor

namespace Go.Proofs.YtlmbiafloiompaaGreatDoor
open Go Go.RowKit Go.WideShapes Go.ChangeShapes
set_option linter.unusedVariables false
set_option linter.unusedSimpArgs false
def BysIn (w:World) (v:Value) (l:List Nat):Prop:=
 (l=[]∧v=.slice none 0 0) ∨
  ∃ b off c,v=.slice (some ⟨b,off,none⟩) l.length c∧l.length≤c∧c≤9223372036854775807∧b<w.heap.size∧∀ k,k<l.length→w.cell? ⟨b,off+k,none⟩=some (.int .u8 ((l.getD k 0:Nat):Int))
theorem BysIn.below {w w':World} {v:Value} {l:List Nat} (h:BysIn w v l) (hb:Below w.heap.size w w'):BysIn w' v l:=by
 rcases h with h | ⟨b,off,c,rfl,h1,h2,h3,hc⟩
 ·exact .inl h
 ·exact .inr ⟨b,off,c,rfl,h1,h2,Nat.lt_of_lt_of_le h3 hb.size,fun k hk=>(hb.cell (p:=⟨b,off+k,none⟩) h3).trans (hc k hk)⟩
theorem BysIn.form {w:World} {v:Value} {l:List Nat} (h:BysIn w v l):∃ A c,v=.slice A l.length c:=by
 rcases h with⟨rfl,rfl⟩ | ⟨b,off,c,rfl,_⟩
 ·exact⟨_,_,rfl⟩
 ·exact⟨_,_,rfl⟩
end Go.Proofs.YtlmbiafloiompaaGreatDoor

namespace Go.Proofs.YtlmbiafloiompaaGreatDoor
open Go Go.RowKit Go.WideShapes Go.ChangeShapes
set_option linter.unusedVariables false
set_option linter.unusedSimpArgs false
theorem slStr:SlT 22 9 1 16:=⟨Tryz.underlying22,⟨.string ⟨#[]⟩,by kernel_rfl,rfl⟩,by decide,by decide⟩
theorem slPred:SlT 32 64 3 32:=⟨Tryz.underlying32,⟨.agg #[.string ⟨#[]⟩,.int .i64 0,.int .i64 0],by kernel_rfl,rfl⟩,by decide,by decide⟩
theorem zk1 {P:Program} {ops:Array Oper} {o:Oper} {a:Act} {w:World} {K:Act→World→Prop} {Q:Exit→Act→World→Prop} {E:Prop} {t t2:TypeId} {v u v':Value} {w':World}
  (hr:(Builtin.append_ #[t,t2] o.type #[v,u]).run P w=.ok v' w') (hgd:o.guard=none) (s x:Operand)
  (ho:o.op=.call { callee:=.builtin .append,args:=#[s,x],argTypes:=#[t,t2] }) (hs:a.eval s=v) (hx:a.eval x=u)
  (h:K (a.put o.dst v') w') :
  if Region.wanted o (yielded ops a.tmps)=true then Oper.wp P o a w K Q else E:=by
 have hw:Region.wanted o (yielded ops a.tmps)=true:=by simp [Region.wanted,hgd]
 rw [if_pos hw]
 unfold Oper.wp execOp
 simp only [ho,resolve,invoke,builtin,Sem.run_bind,Sem.run_pure,Result.andThen_ok,List.map_toArray,List.map_cons,List.map_nil,hs,hx,hr]
 exact h
section
variable {w0 w1 wr w' w6:World} {R g:Nat} {r r':Rd} {va vf vp v6:Value} {la:List ByteArray} {lf:List (ByteArray × Int)} {lp:List (ByteArray × Int × Int)}
end
def Part {α:Type} (f:Rd→α × Rd) (n j:Nat) (r r':Rd) (l:List α):Prop:=l.length+j=n∧l ++ (manyR f j r').1=(manyR f n r).1∧(manyR f j r').2=(manyR f n r).2
theorem Part.start {α:Type} (f:Rd→α × Rd) (n:Nat) (r:Rd):Part f n n r r []:=⟨by simp,rfl,rfl⟩
end Go.Proofs.YtlmbiafloiompaaGreatDoor

namespace Go.Proofs.YtlmbiafloiompaaGreatDoor
open Go Go.RowKit Go.WideShapes Go.ChangeShapes
set_option linter.unusedVariables false
set_option linter.unusedSimpArgs false
section
variable {w0 w wr w' w8 w6:World} {R g gO:Nat} {r r':Rd} {va vf vp vc v6:Value} {lc:List Ins}
end
theorem CellsAt.fr {w w':World} {S:Nat→Prop} {v:Value} {n:Nat} {cs:List Value} (h:CellsAt w v n cs) (hf:Fr S w w') (hn:∀ k,v.ownBlock=some k→¬ S k):CellsAt w' v n cs:=by
 rcases h with h | ⟨b,off,c,rfl,hl,hc⟩
 ·exact .inl h
 ·exact .inr ⟨b,off,c,rfl,Nat.lt_of_lt_of_le hl hf.size,fun k u hk=>(World.cell?_of_block (w:=w) (hf.block b hl (hn b rfl))).trans (hc k u hk)⟩
def PartC (n j:Nat) (r r':Rd) (l:List Ins):Prop:=l.length+j=n∧codeR n r=match codeR j r' with
 | none=>none
 | some (m,r'')=>some (l ++ m,r'')
theorem PartC.start (n:Nat) (r:Rd):PartC n n r r []:=⟨by simp,by cases codeR n r <;> rfl⟩
theorem PartC.bad {n j:Nat} {r r':Rd} {l:List Ins} (h:PartC n (j+1) r r' l) (hi:insR r'=none):codeR n r=none:=by
 rw [h.2,codeR,hi]
end Go.Proofs.YtlmbiafloiompaaGreatDoor

namespace Go.Proofs.YtlmbiafloiompaaGreatDoor
open Go Go.RowKit Go.WideShapes Go.ChangeShapes
set_option linter.unusedVariables false
set_option linter.unusedSimpArgs false
theorem bdrew1 (W:World):Below W.heap.size W W.drew:=⟨rfl,rfl,rfl,Nat.le_refl _,fun _ _=>rfl⟩
end Go.Proofs.YtlmbiafloiompaaGreatDoor
