/-
  The program's takeInstr: an instruction's line. Conditions: a line of at most 1048576 bytes,tables of at most 900000 rows.
-/
import Derived.Test.YtlmbiafloiompaaGreatDoorJO42
set_option linter.unusedVariables false
set_option linter.unusedSimpArgs false
namespace Go.Proofs.YtlmbiafloiompaaGreatDoor
open Go Go.RowKit Go.WideShapes Go.ChangeShapes
theorem zt14 (y0:List UInt8) (vs:List (List UInt8)):Lib.join (y0 :: vs) [32]=y0 ++ vs.flatMap (32 :: ·):=by
  unfold Lib.join
  induction vs generalizing y0 with
  | nil=>simp [List.intercalate]
  | cons v vs ih=>
    have:=ih v
    simp only [List.intercalate,List.intersperse,List.flatten_cons,List.flatMap_cons] at this ⊢
    rw [this]
    simp
theorem flatw_len (vs:List (List UInt8)) (n:Nat) (h:∀ v ∈ vs,v.length≤n):(vs.flatMap (32 :: ·)).length≤vs.length * (n+1):=by
  induction vs with
  | nil=>simp
  | cons v vs ih=>
    have h1:=h v (by simp)
    have h2:=ih (fun w hw=>h w (by simp [hw]))
    rw [List.flatMap_cons,List.length_append,List.length_cons,List.length_cons,Nat.succ_mul]
    omega
def addC (op:Int) (l ns:List Int) (k:Nat):List Value:=[.int .i64 op,.int .i64 (l.getD 0 0+if 0<k then ns.getD 0 0 else 0),.int .i64 (l.getD 1 0+if 1<k then ns.getD 1 0 else 0),.int .i64 (l.getD 2 0+if 2<k then ns.getD 2 0 else 0),.int .i64 (l.getD 3 0+if 3<k then ns.getD 3 0 else 0)]
theorem zh11 (op:Int) (l ns:List Int):(addC op l ns 0).toArray=#[.int .i64 op,.int .i64 (l.getD 0 0),.int .i64 (l.getD 1 0),.int .i64 (l.getD 2 0),.int .i64 (l.getD 3 0)]:=by simp [addC]
theorem addC_end (op:Int) (l ns:List Int):addC op l ns 4=insC (insOf op (sum4 l ns)):=by simp [addC,insC,insOf,sum4]
theorem addC_at (op:Int) (l ns:List Int) (k:Nat) (hk:k<4):(addC op l ns k).toArray[1+k]?=some (.int .i64 (l.getD k 0)):=by
  match k,hk with
  | 0,_=>simp [addC]
  | 1,_=>simp [addC]
  | 2,_=>simp [addC]
  | 3,_=>simp [addC]
theorem addC_step (op:Int) (l ns:List Int) (k:Nat) (hk:k<4):(addC op l ns k).toArray.setIfInBounds (1+k) (.int .i64 (l.getD k 0+ns.getD k 0))=(addC op l ns (k+1)).toArray:=by
  match k,hk with
  | 0,_=>simp [addC]
  | 1,_=>simp [addC]
  | 2,_=>simp [addC]
  | 3,_=>simp [addC]
theorem four_of (ns:List Int) (n:Nat) (h:ns.length=n) (hn:n≤4):((ns ++ List.replicate (4 - n) 0).map (Value.int .i64)).toArray=#[.int .i64 (ns.getD 0 0),.int .i64 (ns.getD 1 0),.int .i64 (ns.getD 2 0),.int .i64 (ns.getD 3 0)]:=by
  subst h
  match ns,hn with
  | [],_=>rfl
  | [_],_=>rfl
  | [_,_],_=>rfl
  | [_,_,_],_=>rfl
  | [_,_,_,_],_=>rfl
theorem getD_bd {ns:List Int} (h:∀ z ∈ ns,0≤z∧z≤4000000) (k:Nat):0≤ns.getD k 0∧ns.getD k 0≤4000000:=by
  rw [List.getD_eq_getElem?_getD]
  cases e:ns[k]? with
  | none=>simp
  | some z=>exact h z (List.mem_of_getElem? e)
theorem slInsM:SlT 33 65 5 40:=⟨Tryz.underlying33,⟨.agg #[.int .i64 0,.int .i64 0,.int .i64 0,.int .i64 0,.int .i64 0],by kernel_rfl,rfl⟩,by decide,by decide⟩
set_option maxRecDepth 100000 in
set_option maxHeartbeats 32000000 in
theorem zq13 (w0:World) (g M:Nat) (va vf vp vc vq:Value) (s:St) (n:Int) (x:ByteArray) (hx:x.size≤1048576) (hl:s.ob.atoms.length≤900000∧s.ob.funs.length≤900000∧s.ob.preds.length≤900000∧s.ob.code.length≤900000∧s.pts.length≤900000) {B:Nat} (hp:LaidC B w0) (w:World) (hk:Mk w0 w g M va vf vp vc vq s) :
    Calls Tryz.prog 40 #[.pointer (some ⟨g,0,none⟩),.int .i64 n,.string x] w (LineW w0 g M (instrLine n x.data.toList s)):=by
  obtain⟨W,hW,hmap,hW0,hW6,hWN,hWs⟩:=zx10 x
  obtain⟨op,hop⟩:∃ op,namedOf (W.getD 0 ⟨#[]⟩)=op:=⟨_,rfl⟩
  have hget:∀ k,k<W.length→W.getD k ⟨#[]⟩=bs ((wordsOf x.data.toList).getD k []):=fun k hk=>by
    rw [← hmap,List.getD_eq_getElem?_getD,List.getD_eq_getElem?_getD,List.getElem?_map,List.getElem?_eq_getElem hk]
    show _=bs (W[k].data.toList)
    rw [str_bs]
    rfl
  have hwl:(wordsOf x.data.toList).length=W.length:=by rw [← hmap,List.length_map]
  have HI:=hD (instr_eq n x.data.toList s op (by rw [← hget 0 hW0];exact hop))
  have hwsz:∀ v ∈ wordsOf x.data.toList,v.length≤1048576:=fun v hv=>by
    rw [← hmap] at hv
    obtain⟨b,hb,rfl⟩:=List.mem_map.1 hv
    have h1:=hWs b hb
    have h2:b.data.toList.length=b.size:=by rw [Array.length_toList];rfl
    omega
  have HSP:=hD (fun w h=>zr10 x (by omega) W hW w (B:=B) h)
  have HAR:=hD (zl9 W (min 6 (x.size+1)) hWN)
  have HK:=hD hk
  have HP:=hD hp
  have HGE:Hid (g<w.heap.size∧M<w.heap.size∧∀ b,w.heap.size≤b→¬ OwnK va vf vp vc vq b):=hD ⟨hk.box.lt,hk.rm.lt,fun b hb e=>by
    rcases e with e | e | e | e | e
    · have:=(own_ge hk.ra e).2;omega
    · have:=(own_ge hk.rf e).2;omega
    · have:=(own_ge hk.rp e).2;omega
    · have:=(own_ge hk.rc e).2;omega
    · have:=(own_ge hk.rq e).2;omega⟩
  have HNM:=hD (fun w h=>zs9 (W.getD 0 ⟨#[]⟩) w h)
  rw [hop] at HNM
  generalize instrLine n x.data.toList s=r at HI
  generalize wordsOf x.data.toList=ww at HI hget hwl hwsz
  have HOPS:=hD (fun w=>za3 op w)
  have hfew:=zv1 op
  generalize opsOf op=L at HI HOPS hfew
  obtain⟨y0,ws,rfl⟩:∃ y0 ws,ww=y0 :: ws:=by
    cases ww with
    | nil=>simp at hwl;omega
    | cons a t=>exact⟨a,t,rfl⟩
  simp only [List.getD_cons_zero,List.tail_cons,List.length_cons] at HI hwl
  have HWC:Hid (∀ k,k<W.length→(Lib.cellsOf W (min 6 (x.size+1)))[k]?=some (.string (bs ((y0 :: ws).getD k [])))):=hD (fun k hk=>by rw [HAR.out k hk,hget k hk])
  have HG0:=hD (hget 0 hW0)
  obtain⟨gw,hgw⟩:∃ gw,w.heap.size=gw:=⟨_,rfl⟩
  have HGW:=hD hgw
  clear hk hp hop hmap hWs hget hW
  go_enter Tryz.func40,Tryz.ntmps40
  go_upto_region 2 with(go_at_call 78;refine(HSP.out _ (HK.out.laid HP.out)).mono ?_;rintro e w2 ⟨rfl,rfl⟩)
  have HK2:=hD (HK.out.alloc (.cells (Lib.cellsOf W (min 6 (x.size+1))) 9))
  have HW2:=hD (Box.new w 9 (Lib.cellsOf W (min 6 (x.size+1))))
  obtain⟨w2,hw2⟩:∃ w2,w.alloc (.cells (Lib.cellsOf W (min 6 (x.size+1))) 9)=w2:=⟨_,rfl⟩
  rw [hw2] at HK2 HW2 ⊢
  rw [hgw] at HW2 HGE
  clear hw2 hgw HSP HAR
  have c0:w2.cell? ⟨gw,0,none⟩=some (.string (W.getD 0 ⟨#[]⟩)):=by rw [HW2.out.cell 0,HWC.out 0 hW0,HG0.out]
  obtain⟨gl,hgl⟩:∃ gl,w2.heap.size=gl:=⟨_,rfl⟩
  have HGL:=hD hgl
  have i0:0<W.length:=hW0
  clear hgl
  generalize W.getD 0 ⟨#[]⟩=s0 at HNM c0 HG0
  go_upto_region 3 with(first
    | (go_at_call 80;refine(HNM.out _ (HK2.out.laid HP.out).names).mono ?_;rintro e w3 ⟨rfl,rfl⟩)
    | (go_at_call 79;refine(HOPS.out _).mono ?_;rintro e w3 hN;obtain⟨pl,rfl,hb3,hl3⟩:=zi8 hN;rw [HGL.out] at hl3;have HK3:=hD (HK2.out.up hb3);have HW3:=hD (HW2.out.below hb3 HW2.out.lt);have HL3:=hD hl3;have HS3:Hid (w2.heap.size≤w3.heap.size):=hD hb3.size;clear hN hb3 hl3))
  clear c0 HNM HOPS HK2
  by_cases hcnt:W.length=L.length+1
  case neg=>
    have HX:Hid (r=.error 17):=hD (by rw [HI.out,if_pos (by omega)])
    have hne:((W.length:Int) - 1 != (L.length:Int))=true:=by rw [bne_iff_ne];omega
    go_wp2
    go_ret
    exact ze2 HX.out HK3.out.below
  case pos=>
  have HI2:Hid (r=match namesStep L ws s.ob with
      | none=>.error 17
      | some (ns,vs,o)=>match parseP (y0 ++ vs.flatMap (32 :: ·)) with
        | none=>.error 17
        | some (op',l)=>.ok { s with ob:={ o with code:=o.code ++ [insOf op' (sum4 l ns)] },pts:=s.pts ++ [(n,(s.ob.code.length:Int),false)] }):=hD (by rw [HI.out,if_neg (by omega)];rfl)
  have hne:(((L.length+1:Nat):Int) - 1 != (L.length:Int))=false:=by rw [bne_eq_false_iff_eq];omega
  have hwsl:ws.length=L.length:=by omega
  rw [hcnt]
  go_upto_region 6 with(fail)
  have HK4:=hD (HK3.out.alloc (.cells #[.int .i64 0,.int .i64 0,.int .i64 0,.int .i64 0] 52))
  have hal:=za w3 (.cells #[.int .i64 0,.int .i64 0,.int .i64 0,.int .i64 0] 52)
  have HW4:=hD (HW3.out.below hal HW3.out.lt)
  have HN4:=hD (Box.new w3 52 #[.int .i64 0,.int .i64 0,.int .i64 0,.int .i64 0])
  have HL4:Hid (0<L.length→pl=some ⟨gl,0,none⟩∧Box (w3.alloc (.cells #[.int .i64 0,.int .i64 0,.int .i64 0,.int .i64 0] 52)) gl 3 (L.map (Value.int .i64)).toArray):=hD (fun h=>⟨(HL3.out h).1,(HL3.out h).2.below hal (HL3.out h).2.lt⟩)
  obtain⟨w4,hw4⟩:∃ w4,w3.alloc (.cells #[.int .i64 0,.int .i64 0,.int .i64 0,.int .i64 0] 52)=w4:=⟨_,rfl⟩
  obtain⟨gn,hgn⟩:∃ gn,w3.heap.size=gn:=⟨_,rfl⟩
  rw [hw4] at HK4 HW4 HN4 HL4 ⊢
  rw [hgn] at HN4 ⊢
  have HGN:=hD hgn
  clear hal hw4 hgn
  have T0:Hid (Tl w0 w4 g M gw gn gl pl L y0 ws s 0 [] [] s.ob va vf vp vc vq (Lib.cellsOf W (min 6 (x.size+1)))):=hD (by
    have a1:=HW2.out.lt
    have a2:=HS3.out
    have a3:=HGL.out
    have a4:=HGN.out
    have a5:=HGW.out
    obtain⟨b1,b2,b3⟩:=HGE.out
    have a6:=HK.out.below.size
    refine⟨HK4.out,HW4.out,fun k hk=>HWC.out k (by omega),HN4.out,HL4.out,fun b hb=>?_,fun h0=>?_,by omega,by omega,fun h0=>?_⟩
    · have:gw≤b:=by rcases hb with rfl | rfl <;> omega
      exact⟨by omega,by omega,b3 b this⟩
    · exact⟨by omega,by omega,b3 gl (by omega)⟩
    · have:=(HL3.out h0).2.lt
      omega)
  clear HK3 HW3 HL3 HK4 HW4 HN4 HL4 HW2 HWC HS3 HGL HGN HGE HI
  go_wp2
  go_loopw [6,10,11,12,13,14,34] (fun _ _ _ _ _ _ j wr=>∃ (m:Nat) (ns:List Int) (vs:List (List UInt8)) (o:Ob) (ua uf up:Value) (arr:Array Value),m≤L.length∧j=.int .i64 m∧Hid (NsP L ws s.ob m ns vs o)∧Hid (Tl w0 wr g M gw gn gl pl L y0 ws s m ns vs o ua uf up vc vq arr)∧Hid (o.atoms.length≤900000+m∧o.funs.length≤900000+m∧o.preds.length≤900000+m)∧Hid (∀ z ∈ ns,0≤z∧z≤4000000)∧Hid (∀ v ∈ vs,v.length≤1048576)) (fun _ _ _ _ _ _ j _=>L.length - (intOf j).toNat)
  case atStart=>exact⟨0,[],[],s.ob,va,vf,vp,_,by omega,rfl,hD (NsP.start _ _ _),T0,hD (by omega),hD (fun z hz=>by cases hz),hD (fun z hz=>by cases hz)⟩
  obtain⟨m,ns,vs,o,ua,uf,up,arr,hmL,rfl,HNS,HT,HBD,HZ,HV⟩:=hrel
  clear T0
  by_cases hlm:m<L.length
  case pos=>
    obtain⟨rfl,hbl⟩:=HT.out.lb (by omega)
    have hkd:wr.cell? ⟨gl,m,none⟩=some (.int .i64 (L.getD m 0)):=by rw [hbl.cell m];simp [hlm]
    have hns:=HNS.out.1
    have hvs:=HNS.out.2.1
    have hwd:wr.cell? ⟨gw,m+1,none⟩=some (.string (bs (ws.getD m []))):=by
      rw [HT.out.wb.cell (m+1),HT.out.wc (m+1) (by omega),List.getD_cons_succ]
      congr 3
      rw [List.getD_eq_getElem?_getD,List.getElem?_append_right (by omega),hvs,Nat.sub_self,List.getElem?_drop,Nat.add_zero,List.getD_eq_getElem?_getD]
    have hm4:(m:Int)<4:=by omega
    have hm0:(0:Int)≤(m:Int):=by omega
    have hmN:(m:Int)+1<((L.length+1:Nat):Int):=by omega
    have hmN2:m+1<L.length+1:=by omega
    have HNK:=hD (fun hn=>HNS.out.keep hlm hn)
    have HNP:=hD (fun y o' hn hs=>HNS.out.put (x:=y) (o':=o') hlm hn hs)
    have HNB:=hD (fun hn hs=>HNS.out.bad hlm hn hs)
    have hwm:(ws.getD m []).length≤1048576:=by
      apply hwsz
      rw [List.getD_eq_getElem?_getD,List.getElem?_eq_getElem (by omega)]
      exact List.mem_cons_of_mem _ (List.getElem_mem (by omega))
    have HTK:=hD (HT.out.keep hns (by omega) (by omega))
    have HTP:=hD (fun W' o' ua' uf' up' (h:Tl w0 W' g M gw gn gl (some ⟨gl,0,none⟩) L y0 ws s m ns vs o' ua' uf' up' vc vq arr) y=>h.put hns hvs (by omega) (by omega) hlm y)
    have HWM:=hD hwm
    have HZ0:Hid (((ns ++ List.replicate (4 - m) 0).map (Value.int .i64)).toArray[m]?=some (.int .i64 0)):=hD (by
      rw [List.getElem?_toArray,List.getElem?_map,List.getElem?_append_right (by omega),hns,Nat.sub_self,List.getElem?_replicate,if_pos (by omega)]
      rfl)
    have HIN:=hD (fun w=>zl16 (L.getD m 0) (bs (ws.getD m [])) w)
    have HNU:=hD (fun hn W' h=>zp16 w0 g M ua uf up vc vq { s with ob:=o } (L.getD m 0) (bs (ws.getD m [])) (by rw [zb4];omega) hn (by have:=HBD.out;simp only;omega) HP.out W' h)
    rw [za4] at HIN HNU
    simp only at HNU
    clear hbl hns hvs hwm
    cases hnm:isNamedB (L.getD m 0) (ws.getD m []) with
    | false=>
      rw [hnm] at HIN
      have HN2:=hD (HNK.out hnm)
      clear hnm
      generalize L.getD m 0=kd at hkd HIN
      generalize bs (ws.getD m [])=xw at hwd HIN
      go_wp2_with (go_at_call 81;refine(HIN.out _).mono ?_;rintro e w5 ⟨rfl,rfl⟩)
      go_roundw
      case rel=>exact⟨m+1,_,_,o,ua,uf,up,arr,by omega,by go_num,HN2,HTK,hD (by have:=HBD.out;omega),hD (fun z hz=>by
        rcases List.mem_append.1 hz with h | h
        · exact HZ.out z h
        · rw [List.mem_singleton.1 h];omega),hD (fun z hz=>by
        rcases List.mem_append.1 hz with h | h
        · exact HV.out z h
        · rw [List.mem_singleton.1 h];exact HWM.out)⟩
      case measure=>simp [intOf];omega
    | true=>
      have HNU2:=hD (HNU.out hnm _ HT.out.mm)
      rw [hnm] at HIN
      cases hst:numStep (L.getD m 0) (ws.getD m []) o with
      | none=>
        rw [hst] at HNU2
        have HX:Hid (r=.error 17):=hD (by rw [HI2.out,HNB.out hnm hst])
        unfold NumW at HNU2
        simp only at HNU2
        clear hnm hst
        generalize L.getD m 0=kd at hkd HIN HNU2
        generalize bs (ws.getD m [])=xw at hwd HIN HNU2
        go_wp2_with (first
          | (go_at_call 81;refine(HIN.out _).mono ?_;rintro e w5 ⟨rfl,rfl⟩)
          | (go_at_call 82;refine HNU2.out.mono ?_;rintro e w6 ⟨rfl,hb6⟩;have HB6:=hD hb6;clear hb6))
        go_ret
        exact ze2 HX.out HB6.out
      | some yo=>
        obtain⟨y,o'⟩:=yo
        rw [hst] at HNU2
        have HN2:=hD (HNP.out y o' hnm hst)
        have HYB:=hD (zv11 hst)
        unfold NumW at HNU2
        simp only at HNU2
        clear hnm hst
        generalize L.getD m 0=kd at hkd HIN HNU2
        generalize bs (ws.getD m [])=xw at hwd HIN HNU2
        go_wp2_with (first
          | (go_at_call 81;refine(HIN.out _).mono ?_;rintro e w5 ⟨rfl,rfl⟩)
          | (go_at_call 82;refine HNU2.out.mono ?_;rintro e w6 ⟨ua',uf',up',rfl,hk6,hf6⟩;have HT6:=hD (HT.out.num hk6 hf6);have z0:=(HT6.out.wb.cell (m+1)).trans (HT6.out.wc (m+1) (by omega));have z1:=HT6.out.wb.frozen (m+1);have z2:=HT6.out.nb.frozen m;have z3:=(HT6.out.nb.cell m).trans HZ0.out;clear hk6 hf6))
        go_roundw
        case rel=>exact⟨m+1,_,_,o',ua',uf',up',_,by omega,by go_num,HN2,hD (HTP.out _ _ _ _ _ HT6.out y),hD (by have:=HBD.out;have:=HYB.out;omega),hD (fun z hz=>by
          rcases List.mem_append.1 hz with h | h
          · exact HZ.out z h
          · rw [List.mem_singleton.1 h];have:=HBD.out;have:=HYB.out;omega),hD (fun z hz=>by
          rcases List.mem_append.1 hz with h | h
          · exact HV.out z h
          · rw [List.mem_singleton.1 h];simp)⟩
        case measure=>simp [intOf];omega
  case neg=>
  obtain rfl:m=L.length:=by omega
  have hns:=HNS.out.1
  have hvs:=HNS.out.2.1
  have HI3:Hid (r=match parseP (y0 ++ vs.flatMap (32 :: ·)) with
        | none=>.error 17
        | some (op',l)=>.ok { s with ob:={ o with code:=o.code ++ [insOf op' (sum4 l ns)] },pts:=s.pts ++ [(n,(s.ob.code.length:Int),false)] }):=hD (by rw [HI2.out,HNS.out.done])
  have HCD:=hD (zv2 HNS.out.done).1
  have HLEN:Hid ((y0 ++ vs.flatMap (32 :: ·)).length≤8300000):=hD (by
    have h1:=hwsz y0 (by simp)
    have h2:=flatw_len vs 1048576 HV.out
    rw [hvs] at h2
    rw [List.length_append]
    have h3:L.length * (1048576+1)≤4 * 1048577:=Nat.mul_le_mul_right _ hfew
    omega)
  have HWB:=hD HT.out.wb
  have HWC:=hD HT.out.wc
  have HJ:=hD (Tryz.strings_Join gw 0 (min 6 (x.size+1)) ((y0 :: vs).map bs) ⟨#[32]⟩ wr (by
    intro j v hj
    rw [Nat.zero_add,HT.out.wb.cell j]
    have hj2:j<L.length+1:=by
      have:=(List.getElem?_eq_some_iff.1 hj).1
      simp at this
      omega
    rw [HT.out.wc j hj2,← hvs]
    rw [List.getElem?_map] at hj
    rw [List.drop_of_length_le (by omega),List.append_nil,List.getD_eq_getElem?_getD]
    cases e:(y0 :: vs)[j]? with
    | none=>rw [e] at hj;cases hj
    | some u=>rw [e] at hj;injection hj with hj;subst hj;rfl) HT.out.wb.lt (by simp;omega) (by simp;omega) (by
    have h:=HLEN.out
    have e:((y0 :: vs).map bs).map (fun b=>b.data.toList)=y0 :: vs:=by (rw [List.map_map];(conv=>rhs;rw [← List.map_id (y0 :: vs)]);exact List.map_congr_left fun a _=>rfl)
    rw [e]
    show(Lib.join (y0 :: vs) [32]).length≤_
    rw [zt14]
    omega))
  have he:((y0 :: vs).map bs).map (fun b=>b.data.toList)=y0 :: vs:=by (rw [List.map_map];(conv=>rhs;rw [← List.map_id (y0 :: vs)]);exact List.map_congr_left fun a _=>rfl)
  rw [he,show(Lib.join (y0 :: vs) (ByteArray.mk #[32]).data.toList)=y0 ++ vs.flatMap (32 :: ·) from zt14 y0 vs,show((y0 :: vs).map bs).length=L.length+1 by simp;omega] at HJ
  have HPA:=hD (fun W h=>parse_any ⟨(y0 ++ vs.flatMap (32 :: ·)).toArray⟩ (by have:=HLEN.out;show(y0 ++ vs.flatMap (32 :: ·)).toArray.size≤_;rw [List.size_toArray];omega) W (B:=B) h)
  have HN4:=hD HT.out.nb
  rw [four_of ns L.length hns hfew] at HN4
  have HNB:=hD (fun k=>getD_bd HZ.out k)
  simp only at HPA
  generalize hjn:y0 ++ vs.flatMap (32 :: ·)=jn at HI3 HJ HPA
  clear hjn he HI2 HLEN HWB HWC HNS
  cases hpp:parseP jn with
  | none=>
    have HX:Hid (r=.error 17):=hD (by rw [HI3.out,hpp])
    go_wp2_with (first
      | (go_at_call 84;refine HJ.out.mono ?_;rintro e w5 ⟨rfl,hb5⟩;have HT5:=hD (HT.out.goes hb5);clear hb5)
      | (go_at_call 83;refine(HPA.out _ (HT5.out.mm.laid HP.out)).mono ?_;rintro e w6 h6;unfold ParseRes insV at h6;rw [hpp] at h6;obtain⟨rfl,hb6⟩:=h6;have HT6:=hD (HT5.out.goes hb6);clear hb6))
    go_ret
    exact ze2 HX.out (HT6.out.mm.alloc _).below
  | some pl2=>
    obtain⟨op',l⟩:=pl2
    have HX:Hid (r=.ok { s with ob:={ o with code:=o.code ++ [insOf op' (sum4 l ns)] },pts:=s.pts ++ [(n,(s.ob.code.length:Int),false)] }):=hD (by rw [HI3.out,hpp])
    have HLB:Hid (∀ k,k<4→0≤l.getD k 0∧l.getD k 0≤65535):=hD (fun k hk=>may_bd (zw2 (zy9 hpp).2.1 k hk))
    go_upto_region 17 with(first
      | (go_at_call 84;refine HJ.out.mono ?_;rintro e w5 ⟨rfl,hb5⟩;have HT5:=hD (HT.out.goes hb5);clear hb5)
      | (go_at_call 83;refine(HPA.out _ (HT5.out.mm.laid HP.out)).mono ?_;rintro e w6 h6;unfold ParseRes insV at h6;rw [hpp] at h6;obtain⟨rfl,hb6⟩:=h6;have HT6:=hD (HT5.out.goes hb6);clear hb6))
    have HM6:=hD HT6.out.mm
    have HN6:=hD HT6.out.nb
    rw [four_of ns L.length hns hfew] at HN6
    have HI6:=hD (Box.new w6 65 (addC op' l ns 0).toArray)
    have HB6:=hD (za w6 (.cells (addC op' l ns 0).toArray 65))
    have HN7:=hD (HN6.out.below HB6.out HN6.out.lt)
    have HGI:Hid (w6.heap.size≠g∧w6.heap.size≠M∧¬ OwnK ua uf up vc vq w6.heap.size):=hD ⟨by have:=HM6.out.box.lt;omega,by have:=HM6.out.rm.lt;omega,fun e=>by
      rcases e with e | e | e | e | e
      · have:=(own_ge HM6.out.ra e).2;omega
      · have:=(own_ge HM6.out.rf e).2;omega
      · have:=(own_ge HM6.out.rp e).2;omega
      · have:=(own_ge HM6.out.rc e).2;omega
      · have:=(own_ge HM6.out.rq e).2;omega⟩
    obtain⟨b0,hb0⟩:∃ z,ns.getD 0 0=z:=⟨_,rfl⟩
    obtain⟨b1,hb1⟩:∃ z,ns.getD 1 0=z:=⟨_,rfl⟩
    obtain⟨b2,hb2⟩:∃ z,ns.getD 2 0=z:=⟨_,rfl⟩
    obtain⟨b3,hb3⟩:∃ z,ns.getD 3 0=z:=⟨_,rfl⟩
    rw [hb0,hb1,hb2,hb3] at HN7
    have HIX:Hid (∀ wr k,k<4→(Instr.index 52 (.agg #[.int .i64 b0,.int .i64 b1,.int .i64 b2,.int .i64 b3]) (.int .i64 ((k:Nat):Int))).run Tryz.prog wr=.ok (.int .i64 (ns.getD k 0)) wr):=hD (fun wr k hk=>zk3 (P:=Tryz.prog) wr 52 3 4 #[.int .i64 b0,.int .i64 b1,.int .i64 b2,.int .i64 b3] .i64 k (.int .i64 (ns.getD k 0)) Tryz.underlying52 (fun _=>by kernel_rfl) (fun _=>by kernel_rfl) hk (by
      match k,hk with
      | 0,_=>rw [hb0];rfl
      | 1,_=>rw [hb1];rfl
      | 2,_=>rw [hb2];rfl
      | 3,_=>rw [hb3];rfl))
    rw [zh11] at HB6 HI6 HN7
    simp only [List.getD_eq_getElem?_getD] at HB6 HI6 HN7
    obtain⟨w7,hw7⟩:∃ w7,w6.alloc (.cells #[.int .i64 op',.int .i64 (l[0]?.getD 0),.int .i64 (l[1]?.getD 0),.int .i64 (l[2]?.getD 0),.int .i64 (l[3]?.getD 0)] 65)=w7:=⟨_,rfl⟩
    rw [hw7] at HB6 HI6 HN7 ⊢
    obtain⟨gi,hgi⟩:∃ gi,w6.heap.size=gi:=⟨_,rfl⟩
    rw [hgi] at HI6 HGI ⊢
    have HGW6:=hD hgi
    have HI7:Hid (Box w7 gi 65 (addC op' l ns 0).toArray):=hD (by
      have h:=HI6.out
      rw [zh11]
      simp only [List.getD_eq_getElem?_getD]
      exact h)
    have HB7:Hid (Below gi w6 w7):=hD (by have h:=HB6.out;rw [hgi] at h;exact h)
    have n0:=HN7.out.cell 0
    have n1:=HN7.out.cell 1
    have n2:=HN7.out.cell 2
    have n3:=HN7.out.cell 3
    clear hw7 hgi hb0 hb1 hb2 hb3 HI6 HB6 HN6 HT HT5 HT6 HJ HPA HI3 hpp hns hvs
    go_wp2
    go_loopw [17,18,75] (fun _ _ j wr=>∃ (k:Nat),k≤4∧j=.int .i64 k∧Hid (Box wr gi 65 (addC op' l ns k).toArray)∧Hid (Below gi w6 wr)) (fun _ _ j _=>4 - (intOf j).toNat)
    case atStart=>exact⟨0,by omega,rfl,HI7,HB7⟩
    obtain⟨k,hk4,rfl,HI8,HB8⟩:=hrel
    clear HI7 HB7 n0 n1 n2 n3
    by_cases hlt:k<4
    case pos=>
      have hix:=HIX.out wr k hlt
      have hxa:=(HI8.out.cell (1+k)).trans (addC_at op' l ns k hlt)
      have hxf:=HI8.out.frozen (1+k)
      have hlb:=HLB.out k hlt
      have hnb:=HNB.out k
      have hk40:(k:Int)<4:=by omega
      have hk00:(0:Int)≤(k:Int):=by omega
      have HST:=hD (addC_step op' l ns k hlt)
      generalize l.getD k 0=xa at hxa hlb HST
      generalize ns.getD k 0=xb at hix hnb HST
      go_wp2
      go_roundw
      case rel=>exact⟨k+1,by omega,by go_num,hD (by rw [← HST.out];exact HI8.out.set_ (1+k) (.int .i64 (xa+xb))),hD (HB8.out.setCell (p:=⟨gi,1+k,none⟩) (Nat.le_refl _) _)⟩
      case measure=>simp [intOf];omega
    case neg=>
    obtain rfl:k=4:=by omega
    rw [addC_end] at HI8
    have HBW:Hid (Below w6.heap.size w6 wr):=hD (by rw [HGW6.out];exact HB8.out)
    have HM8:=hD (HM6.out.up HBW.out)
    have HX2:Hid (r=.ok { s with ob:={ o with code:=o.code ++ [insOf op' (sum4 l ns)] },pts:=s.pts ++ [(n,(o.code.length:Int),false)] }):=hD (by rw [HX.out,HCD.out])
    have HL2:Hid (o.code.length≤1000000∧s.pts.length≤1000000):=hD (by rw [HCD.out];omega)
    generalize insOf op' (sum4 l ns)=ii at HI8 HX2
    obtain⟨i0,i1,i2,i3,i4⟩:=ii
    clear HX HIX HLB HNB HCD HM6 HBD HZ HV
    obtain⟨A4,c4,hvc,_⟩:=zl HM8.out.rc
    obtain⟨A5,c5,hvq,_⟩:=zl HM8.out.rq
    subst hvc hvq
    have q3:=HM8.out.box.cell 3
    have q5:=HM8.out.box.cell 5
    have q3a:=fun oo=>(HM8.out.box.alloc oo).cell 3
    have q5a:=fun oo=>(HM8.out.box.alloc oo).cell 5
    go_upto_region 24 with(fail)
    obtain⟨v6,w8,hr6,HA6⟩:=zp1 slPt (HM8.out.drewN 1).rq [.int .i64 n,.int .i64 (o.code.length:Int),.bool false] rfl (by intro u hu;simp only [List.mem_cons,List.not_mem_nil,or_false] at hu;rcases hu with rfl | rfl | rfl <;> rfl) HL2.out.2 (HM8.out.drewN 1).below.size 77
    obtain⟨A6,c6,hv6⟩:=HA6.out.form
    subst hv6
    obtain⟨hT6,z0,z1⟩:=(HM8.out.drewN 1).putq HA6.out
    have HF6:=hD (MkF.putq (g:=g) (M:=M) (va:=ua) (vf:=uf) (vp:=up) (vc:=.slice A4 o.code.length c4) HA6.out)
    have HI9:=hD (HF6.out.keep (HI8.out.drewN 1) HGI.out.1 HGI.out.2.1 HGI.out.2.2)
    have HT6:=hD hT6
    have HR6:=hD hr6
    clear hr6 hT6
    go_cut [] (fun wc=>Hid (Mk w0 wc g M ua uf up (.slice A4 o.code.length c4) (.slice A6 (s.pts.length+1) c6) { s with ob:=o,pts:=s.pts ++ [(n,(o.code.length:Int),false)] })∧Hid (Box wc gi 65 (insC (i0,i1,i2,i3,i4)).toArray))
    case first=>
      go_region_law (refine zi HR6.out rfl _ _ rfl rfl rfl ?_)
      all_goals
        go_wp2
        go_meet
        exact⟨HT6,hD HI9.out.1⟩
    case rest=>
    obtain⟨HM9,HJ9⟩:=hcut
    clear HR6 HT6 HI9 HF6 HM8 HI8 q3 q5 q3a q5a z0 z1 HA6
    have q3:=HM9.out.box.cell 3
    have q3a:=fun oo=>(HM9.out.box.alloc oo).cell 3
    have j0:wc.cell? ⟨gi,0,none⟩=some (.int .i64 i0):=HJ9.out.cell 0
    have j1:wc.cell? ⟨gi,1,none⟩=some (.int .i64 i1):=HJ9.out.cell 1
    have j2:wc.cell? ⟨gi,2,none⟩=some (.int .i64 i2):=HJ9.out.cell 2
    have j3:wc.cell? ⟨gi,3,none⟩=some (.int .i64 i3):=HJ9.out.cell 3
    have j4:wc.cell? ⟨gi,4,none⟩=some (.int .i64 i4):=HJ9.out.cell 4
    go_upto_region 25 with(fail)
    obtain⟨v7,w9,hr7,HA7⟩:=zp1 slInsM (HM9.out.drewN 1).rc [.int .i64 i0,.int .i64 i1,.int .i64 i2,.int .i64 i3,.int .i64 i4] rfl (by intro u hu;simp only [List.mem_cons,List.not_mem_nil,or_false] at hu;rcases hu with rfl | rfl | rfl | rfl | rfl <;> rfl) HL2.out.1 (HM9.out.drewN 1).below.size 33
    obtain⟨A7,c7,hv7⟩:=HA7.out.form
    subst hv7
    obtain⟨hT7,z0,z1⟩:=(HM9.out.drewN 1).putc HA7.out
    have HT7:=hD hT7
    have HR7:=hD hr7
    clear hr7 hT7
    go_region_law (refine zi HR7.out rfl _ _ rfl rfl rfl ?_)
    all_goals
      go_wp2
      go_ret
      exact zh5 HX2.out HT7.out
end Go.Proofs.YtlmbiafloiompaaGreatDoor
