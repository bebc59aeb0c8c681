/-
  2 texts in one (VDocA VDocB). Conditions: those of each theorem.
-/
import Derived.Test.YtlmbiafloiompaaGreatDoorJL10
namespace Go.Proofs.YtlmbiafloiompaaGreatDoor
open Go Go.RowKit
set_option linter.unusedVariables false
set_option linter.unusedSimpArgs false
theorem zi7 (n:Nat) (hn:n≤8) (w:World) :
  Calls Tryz.prog 30 #[.int .i64 n] w fun e w'=>e=.returned (.int .u32 ((2 ^ n - 1:Nat):Int))∧w=w':=by
 go_enter Tryz.func30,Tryz.ntmps30
 go_wp2
 go_loopw [3,4] (fun x i wr=>∃ (k:Nat) (y:Int),k≤n∧i=.int .i64 k∧x=.int .u32 y∧Hid (y=((2 ^ k - 1:Nat):Int))∧Hid (w=wr)) (fun _ i _=>n - (intOf i).toNat)
 case atStart=>exact⟨0,0,by omega,rfl,rfl,hD rfl,hD rfl⟩
 obtain⟨k,y,hk,rfl,rfl,HY,HB⟩:=hrel
 by_cases hlt:k<n
 case pos=>
  have hb:0≤y∧y≤255:=by
   have h1:=HY.out
   have h2:=zy5 (n:=k) (by omega)
   omega
  have e1:2 * y % 4294967296=2 * y:=by omega
  have e2:(2 * y+1) % 4294967296=2 * y+1:=by omega
  go_wp2
  go_roundw
  case rel=>exact⟨k+1,2 * y+1,by omega,by go_num,rfl,hD (by
   have h1:=zk18 k
   have h2:=HY.out
   omega),HB⟩
  case measure=>simp [intOf];omega
 case neg=>
 obtain rfl:k=n:=by omega
 go_wp2
 go_ret
 exact⟨by rw [HY.out];rfl,HB.out⟩
theorem za3 (x n:Nat) (hx:x<2 ^ 16) (hn:n<16) (w:World) :
  Calls Tryz.prog 67 #[.int .u32 x,.int .i64 n] w fun e w'=>e=.returned (.bool (x.testBit n))∧w=w':=by
 go_enter Tryz.func67,Tryz.ntmps67
 go_wp2
 go_loopw [0,5] (fun y i wr=>∃ (k z:Nat),k≤n∧i=.int .i64 k∧y=.int .u32 z∧Hid (z=x / 2 ^ k)∧Hid (w=wr)) (fun _ i _=>n - (intOf i).toNat)
 case atStart=>exact⟨0,x,by omega,rfl,rfl,hD (by simp),hD rfl⟩
 obtain⟨k,z,hk,rfl,rfl,HY,HB⟩:=hrel
 have hz:z<65536:=by
  have h1:=HY.out
  have h2:x / 2 ^ k≤x:=Nat.div_le_self _ _
  omega
 by_cases hlt:k<n
 case pos=>
  obtain⟨q,hq⟩:∃ q:Nat,z / 2=q:=⟨_,rfl⟩
  have e1:(z:Int).tdiv 2=(q:Int):=by rw [← hq];rfl
  have e2:(q:Int) % 4294967296=(q:Int):=by omega
  have HQ:Hid (q=x / 2 ^ (k+1)):=hD (by rw [← hq,HY.out,half_pow])
  clear hq
  go_wp2
  go_roundw
  case rel=>exact⟨k+1,q,by omega,by go_num,rfl,HQ,HB⟩
  case measure=>simp [intOf];omega
 case neg=>
 obtain rfl:k=n:=by omega
 have HS:Hid ((z:Int).tmod 2=1 ↔ x.testBit k=true):=hD (by
  rw [← set_is,← HY.out,show(z:Int).tmod 2=((z % 2:Nat):Int) from rfl]
  omega)
 cases hb:x.testBit k with
 | true=>
  have e1:(z:Int).tmod 2=1:=HS.out.2 hb
  go_wp2
  go_ret
  exact⟨by rw [hb];rfl,HB.out⟩
 | false=>
  have e1:(z:Int).tmod 2=0:=by
   have h1:¬ (z:Int).tmod 2=1:=fun h=>by rw [HS.out.1 h] at hb;cases hb
   rw [show(z:Int).tmod 2=((z % 2:Nat):Int) from rfl] at h1 ⊢
   omega
  go_wp2
  go_ret
  exact⟨by rw [hb];rfl,HB.out⟩
theorem zk3 (x n:Nat) (hx:x<2 ^ 16) (hn:n<16) (w:World) :
  Calls Tryz.prog 68 #[.int .u32 x,.int .i64 n] w fun e w'=>e=.returned (.int .u32 ((x ||| 2 ^ n:Nat):Int))∧w=w':=by
 have HS:=hD (fun w=>za3 x n hx hn w)
 have HW:Hid (x.testBit n=false→x+2 ^ n=x ||| 2 ^ n):=hD (zi16 n x)
 have HH:Hid (x.testBit n=true→x ||| 2 ^ n=x):=hD with_had
 have hlt:x ||| 2 ^ n<2 ^ 16:=or_lt hx hn
 generalize x.testBit n=b at HS HW HH
 obtain⟨r,hr⟩:∃ r:Nat,x ||| 2 ^ n=r:=⟨_,rfl⟩
 rw [hr] at HW HH hlt ⊢
 clear hr
 cases b with
 | true=>
  replace HH:=hD (HH.out rfl)
  clear HW
  go_enter Tryz.func68,Tryz.ntmps68
  go_wp2_with (go_at_call 67;refine(HS.out _).mono ?_;rintro e1 w1 ⟨rfl,hb1⟩;have HB:=hD hb1;clear hb1)
  go_ret
  exact⟨by rw [HH.out];rfl,HB.out⟩
 | false=>
  replace HW:=hD (HW.out rfl)
  clear HH
  go_enter Tryz.func68,Tryz.ntmps68
  go_wp2_with (go_at_call 67;refine(HS.out _).mono ?_;rintro e1 w1 ⟨rfl,hb1⟩;have HB:=hD hb1;clear hb1)
  go_loopw [5,6] (fun y i wr=>∃ (k z:Nat),k≤n∧i=.int .i64 k∧y=.int .u32 z∧Hid (z=2 ^ k)∧Hid (w=wr)) (fun _ i _=>n - (intOf i).toNat)
  case atStart=>exact⟨0,1,by omega,rfl,rfl,hD rfl,HB⟩
  obtain⟨k,z,hk,rfl,rfl,HY,HB⟩:=hrel
  have hz:z<65536:=by
   have h1:=HY.out
   have h2:(2:Nat) ^ k<2 ^ 16:=Nat.pow_lt_pow_right (by decide) (by omega)
   omega
  by_cases hk2:k<n
  case pos=>
   obtain⟨q,hq⟩:∃ q:Nat,2 * z=q:=⟨_,rfl⟩
   have e2:(2 * (z:Int)) % 4294967296=(q:Int):=by omega
   have HQ:Hid (q=2 ^ (k+1)):=hD (by rw [← hq,HY.out,Nat.pow_succ,Nat.mul_comm])
   have HQ2:Hid (2 * (z:Int)=(q:Int)):=hD (by omega)
   clear hq e2
   go_wp2
   go_roundw
   case rel=>exact⟨k+1,q,by omega,by go_num,by rw [HQ2.out],HQ,HB⟩
   case measure=>simp [intOf];omega
  case neg=>
  obtain rfl:k=n:=by omega
  have HE:Hid (x+z=r):=hD (by rw [← HW.out,HY.out])
  have HE2:Hid ((x:Int)+(z:Int)=(r:Int)):=hD (by have:=HE.out;omega)
  go_wp2
  go_ret
  exact⟨by rw [← HE2.out];rfl,HB.out⟩
theorem zj14 (a b:Nat) (ha:a<2 ^ 16) (hb:b<2 ^ 16) (w:World) :
  Calls Tryz.prog 71 #[.int .u32 a,.int .u32 b] w fun e w'=>e=.returned (.int .u32 ((a &&& b:Nat):Int))∧w=w':=by
 have HSA:=hD (fun n hn w=>za3 a n ha hn w)
 have HSB:=hD (fun n hn w=>za3 b n hb hn w)
 have HST:=hD (both_step a b)
 have HEN:=hD (both_end (a:=a) (b:=b) ha)
 generalize a &&& b=c at HST HEN ⊢
 have HCB:Hid (∀ k,c % 2 ^ k<2 ^ 16):=hD (fun k=>by
  have h1:=HEN.out
  have h2:c<2 ^ 16:=by rw [← h1];exact Nat.mod_lt _ (by decide)
  exact Nat.lt_of_le_of_lt (Nat.mod_le _ _) h2)
 go_enter Tryz.func71,Tryz.ntmps71
 go_wp2
 go_loopw [5,6] (fun y i wr=>∃ (k z:Nat),k≤16∧i=.int .i64 k∧y=.int .u32 z∧Hid (z=c % 2 ^ k)∧Hid (w=wr)) (fun _ i _=>16 - (intOf i).toNat)
 case atStart=>exact⟨0,0,by omega,rfl,rfl,hD (by simp [Nat.mod_one]),hD rfl⟩
 obtain⟨k,z,hk,rfl,rfl,HY,HB⟩:=hrel
 by_cases hlt:k<16
 case pos=>
  have HA1:=hD (fun w=>HSA.out k hlt w)
  have HB1:=hD (fun w=>HSB.out k hlt w)
  have hz:z<2 ^ 16:=by rw [HY.out];exact HCB.out k
  have HW1:=hD (fun w=>zk3 z k hz hlt w)
  have HS1:=hD (HST.out k)
  have i1:(k:Int)<16:=by omega
  generalize a.testBit k=ba at HA1 HS1
  generalize b.testBit k=bb at HB1 HS1
  have A0:True:=trivial
  cases ba with
  | false=>
   have HQ:Hid (z=c % 2 ^ (k+1)):=hD (by rw [HS1.out,if_neg (by simp),HY.out])
   go_wp2_with (go_at_call 67;refine(HA1.out _).mono ?_;rintro e1 w1 ⟨rfl,hb1⟩;have HB:=hD (HB.out.trans hb1);clear hb1)
   go_roundw
   case rel=>exact⟨k+1,z,by omega,by go_num,rfl,HQ,HB⟩
   case measure=>simp [intOf];omega
  | true=>
   cases bb with
   | false=>
    have HQ:Hid (z=c % 2 ^ (k+1)):=hD (by rw [HS1.out,if_neg (by simp),HY.out])
    go_wp2_with (first | (clear A0;go_at_call 67;refine(HA1.out _).mono ?_;rintro e1 w1 ⟨rfl,hb1⟩;have HB:=hD (HB.out.trans hb1);clear hb1) | (go_at_call 67;refine(HB1.out _).mono ?_;rintro e1 w1 ⟨rfl,hb1⟩;have HB:=hD (HB.out.trans hb1);clear hb1))
    go_roundw
    case rel=>exact⟨k+1,z,by omega,by go_num,rfl,HQ,HB⟩
    case measure=>simp [intOf];omega
   | true=>
    have HQ:Hid (z ||| 2 ^ k=c % 2 ^ (k+1)):=hD (by rw [HS1.out,if_pos ⟨rfl,rfl⟩,HY.out])
    generalize z ||| 2 ^ k=q at HQ HW1
    go_wp2_with (first | (clear A0;go_at_call 67;refine(HA1.out _).mono ?_;rintro e1 w1 ⟨rfl,hb1⟩;have HB:=hD (HB.out.trans hb1);clear hb1) | (go_at_call 67;refine(HB1.out _).mono ?_;rintro e1 w1 ⟨rfl,hb1⟩;have HB:=hD (HB.out.trans hb1);clear hb1) | (go_at_call 68;refine(HW1.out _).mono ?_;rintro e1 w1 ⟨rfl,hb1⟩;have HB:=hD (HB.out.trans hb1);clear hb1))
    go_roundw
    case rel=>exact⟨k+1,q,by omega,by go_num,rfl,HQ,HB⟩
    case measure=>simp [intOf];omega
 case neg=>
 obtain rfl:k=16:=by omega
 have HE:Hid (z=c):=hD (by rw [HY.out,HEN.out])
 go_wp2
 go_ret
 exact⟨by rw [HE.out];rfl,HB.out⟩
end Go.Proofs.YtlmbiafloiompaaGreatDoor

namespace Go.Proofs.YtlmbiafloiompaaGreatDoor
open Go Go.RowKit
set_option linter.unusedVariables false
set_option linter.unusedSimpArgs false
set_option maxRecDepth 4000
theorem zn6 {s:VSt} (hs:StOk s) (r:Int) (h0:0≤r) (hr:r<32) (w:World) :
  Calls Tryz.prog 64 #[.agg (stA s),.int .i64 r] w fun e w'=>e=.returned (.bool (mayV s r))∧Below w.heap.size w w':=by
 have HB:=hD (zc w (.cells (stA s) 95))
 have HX:=hD (Box.new w 95 (stA s))
 by_cases h:r<16
 ·have HR:Hid (mayV s r=true):=hD (by unfold mayV;rw [decide_eq_true h,Bool.true_or])
  generalize mayV s r=res at HR ⊢
  generalize stA s=A at HB HX ⊢
  go_enter Tryz.func64,Tryz.ntmps64
  go_wp2
  go_ret
  exact⟨by rw [HR.out];rfl,HB.out⟩
 ·obtain⟨k,rfl⟩:∃ k:Nat,r=(k:Int)+16:=⟨(r - 16).toNat,by omega⟩
  have hk:k<16:=by omega
  have e1:(k:Int)+16 - 16=k:=by omega
  have e2:¬ ((k:Int)+16<16):=by omega
  have i0:(0:Int)≤(k:Int):=by omega
  have i1:(k:Int)<16:=by omega
  have HR:Hid (mayV s ((k:Int)+16)=(decide ((k:Int)<s.env) && decide (yAt s k=0))):=hD (by unfold mayV;rw [decide_eq_false e2,Bool.false_or,e1])
  have x1:=HX.out.cell 1
  have xy:=HX.out.cell (2+k)
  rw [zj1] at x1
  rw [stA_y hs k hk] at xy
  generalize mayV s ((k:Int)+16)=res at HR ⊢
  generalize stA s=A at HB HX x1 xy ⊢
  generalize s.env=en at x1 HR
  generalize yAt s (k:Int)=y at xy HR
  by_cases h1:(k:Int)<en
  ·by_cases h2:y=0
   ·have HR':Hid (res=true):=hD (by rw [HR.out,decide_eq_true h1,decide_eq_true h2];rfl)
    subst h2
    go_enter Tryz.func64,Tryz.ntmps64
    go_wp2
    go_ret
    exact⟨by rw [HR'.out];rfl,HB.out⟩
   ·have HR':Hid (res=false):=hD (by rw [HR.out,decide_eq_false h2,Bool.and_false])
    have h3:(y == 0)=false:=beq_eq_false_iff_ne.2 h2
    go_enter Tryz.func64,Tryz.ntmps64
    go_wp2
    go_ret
    exact⟨by rw [HR'.out];rfl,HB.out⟩
  ·have HR':Hid (res=false):=hD (by rw [HR.out,decide_eq_false h1,Bool.false_and])
   go_enter Tryz.func64,Tryz.ntmps64
   go_wp2
   go_ret
   exact⟨by rw [HR'.out];rfl,HB.out⟩
theorem zq5 {s:VSt} (hs:StOk s) (r:Int) (h0:0≤r) (hr:r<32) (w:World) :
  Calls Tryz.prog 65 #[.agg (stA s),.int .i64 r] w fun e w'=>e=.returned (.bool (termV s r))∧Below w.heap.size w w':=by
 have HB:=hD (zc w (.cells (stA s) 95))
 have HX:=hD (Box.new w 95 (stA s))
 by_cases h:r<16
 ·obtain⟨k,rfl⟩:∃ k:Nat,r=(k:Int):=⟨r.toNat,by omega⟩
  have HS:=hD (fun w=>za3 s.x k hs.x (by omega) w)
  have HR:Hid (termV s (k:Int)=s.x.testBit k):=hD (by unfold termV;rw [if_pos h];rfl)
  have x0:=HX.out.cell 0
  rw [stA_x] at x0
  generalize termV s (k:Int)=res at HR ⊢
  generalize s.x.testBit k=b at HR HS
  generalize stA s=A at HB HX x0 ⊢
  generalize s.x=x at x0 HS
  go_enter Tryz.func65,Tryz.ntmps65
  go_wp2_with (go_at_call 67;refine(HS.out _).mono ?_;rintro e1 w1 ⟨rfl,rfl⟩)
  go_ret
  exact⟨by rw [HR.out];rfl,HB.out⟩
 ·obtain⟨k,rfl⟩:∃ k:Nat,r=(k:Int)+16:=⟨(r - 16).toNat,by omega⟩
  have hk:k<16:=by omega
  have e1:(k:Int)+16 - 16=k:=by omega
  have e2:¬ ((k:Int)+16<16):=by omega
  have i0:(0:Int)≤(k:Int):=by omega
  have i1:(k:Int)<16:=by omega
  have HR:Hid (termV s ((k:Int)+16)=(decide ((k:Int)<s.env) && decide (yAt s k=1))):=hD (by unfold termV;rw [if_neg e2,e1])
  have x1:=HX.out.cell 1
  have xy:=HX.out.cell (2+k)
  rw [zj1] at x1
  rw [stA_y hs k hk] at xy
  generalize termV s ((k:Int)+16)=res at HR ⊢
  generalize stA s=A at HB HX x1 xy ⊢
  generalize s.env=en at x1 HR
  generalize yAt s (k:Int)=y at xy HR
  by_cases h1:(k:Int)<en
  ·by_cases h2:y=1
   ·have HR':Hid (res=true):=hD (by rw [HR.out,decide_eq_true h1,decide_eq_true h2];rfl)
    subst h2
    go_enter Tryz.func65,Tryz.ntmps65
    go_wp2
    go_ret
    exact⟨by rw [HR'.out];rfl,HB.out⟩
   ·have HR':Hid (res=false):=hD (by rw [HR.out,decide_eq_false h2,Bool.and_false])
    have h3:(y == 1)=false:=beq_eq_false_iff_ne.2 h2
    go_enter Tryz.func65,Tryz.ntmps65
    go_wp2
    go_ret
    exact⟨by rw [HR'.out];rfl,HB.out⟩
  ·have HR':Hid (res=false):=hD (by rw [HR.out,decide_eq_false h1,Bool.false_and])
   go_enter Tryz.func65,Tryz.ntmps65
   go_wp2
   go_ret
   exact⟨by rw [HR'.out];rfl,HB.out⟩
theorem zs9 {s:VSt} (hs:StOk s) (r:Int) (h0:0≤r) (hr:r<32) (w:World) :
  Calls Tryz.prog 66 #[.agg (stA s),.int .i64 r] w fun e w'=>e=.returned (.agg (stA (becV s r)))∧Below w.heap.size w w':=by
 obtain⟨hx1,hx2,hb⟩:=zs6 w (stA s) zeroA 95
 have HB:=hD hb
 have HX:=hD hx1
 have HZ:=hD hx2
 clear hb hx1 hx2
 have HZE:Hid (zeroA=#[.int .u32 0,.int .i64 0,.int .i64 0,.int .i64 0,.int .i64 0,.int .i64 0,.int .i64 0,.int .i64 0,.int .i64 0,.int .i64 0,.int .i64 0,.int .i64 0,.int .i64 0,.int .i64 0,.int .i64 0,.int .i64 0,.int .i64 0,.int .i64 0,.int .i64 0,.bool false,.bool false]):=hD rfl
 have HZS:Hid (zeroA.size=21):=hD rfl
 have HSZ:=hD (zg (hs.bec h0 hr))
 have HS1:=hD (zp (becV s r))
 generalize zeroA=O at HB HX HZ HZE HZS
 by_cases h:r<16
 ·obtain⟨k,rfl⟩:∃ k:Nat,r=(k:Int):=⟨r.toNat,by omega⟩
  have hk:k<16:=by omega
  have HS:=hD (fun w=>zk3 s.x k hs.x hk w)
  have HE:Hid (stA (becV s (k:Int))=(stA s).setIfInBounds 0 (.int .u32 ((s.x ||| 2 ^ k:Nat):Int))):=hD (by
   unfold becV
   rw [if_pos h]
   exact zr5 s k)
  have x0:=HX.out.cell 0
  have z0:=HX.out.frozen 0
  rw [stA_x] at x0
  generalize stA (becV s (k:Int))=C at HE HSZ HS1 ⊢
  generalize stA s=A at HB HX HZ HE x0 z0 ⊢
  generalize s.x ||| 2 ^ k=r at HE HS
  generalize s.x=x at x0 HS
  have HX2:=hD (HX.out.set_ 0 (.int .u32 (r:Int)))
  rw [← HE.out] at HX2
  have HZ2:=hD (HZ.out.far (p:=⟨w.heap.size,0,none⟩) (by simp) (.int .u32 (r:Int)))
  have HB2:=hD (HB.out.setCell (p:=⟨w.heap.size,0,none⟩) (Nat.le_refl _) (.int .u32 (r:Int)))
  go_enter Tryz.func66,Tryz.ntmps66
  go_upto_region 1 with(fail)
  rw [← HZE.out]
  obtain⟨w1,hw1⟩:∃ w1,(w.alloc (.cells A 95)).alloc (.cells O 95)=w1:=⟨_,rfl⟩
  obtain⟨g,hg⟩:∃ g,w.heap.size=g:=⟨_,rfl⟩
  rw [hw1] at HX HX2 HZ2 HB2 x0 z0 ⊢
  rw [hg] at HX HX2 HZ2 HB2 x0 z0 ⊢
  clear hw1 HZE HB HZ
  go_wp2_with (first | (go_at_call 68;refine(HS.out _).mono ?_;rintro e1 w2 ⟨rfl,rfl⟩) | (refine zw zr zd (by rfl) (.tmp 2) rfl g 0 rfl C (zf HX2.out) HSZ.out ?_) | (refine za zd rfl (.tmp 4) (.tmp 16) rfl (g+1) 0 C rfl rfl (zi HZ2.out (by rw [HZS.out];decide)) HSZ.out HS1.out ?_))
  exact bodyPost_ret (zz1 zr zd rfl _ _ (g+1) C rfl (zi1 HZ2.out (HSZ.out.trans HZS.out.symm)) HSZ.out) rfl ⟨rfl,by first | exact zu C.toList _ _ 0 HB2.out (by omega) | (rw [hg];exact zu C.toList _ _ 0 HB2.out (by omega))⟩
 ·obtain⟨k,rfl⟩:∃ k:Nat,r=(k:Int)+16:=⟨(r - 16).toNat,by omega⟩
  have hk:k<16:=by omega
  have e1:(k:Int)+16 - 16=k:=by omega
  have e2:¬ ((k:Int)+16<16):=by omega
  have i0:(0:Int)≤(k:Int):=by omega
  have i1:(k:Int)<16:=by omega
  have HE:Hid (stA (becV s ((k:Int)+16))=(stA s).setIfInBounds (2+k) (.int .i64 1)):=hD (by
   unfold becV
   rw [if_neg e2,show((k:Int)+16 - 16).toNat=k by omega]
   exact zu17 hs k hk)
  have x0:=HX.out.cell (2+k)
  have z0:=HX.out.frozen (2+k)
  rw [stA_y hs k hk] at x0
  generalize stA (becV s ((k:Int)+16))=C at HE HSZ HS1 ⊢
  generalize stA s=A at HB HX HZ HE x0 z0 ⊢
  generalize yAt s (k:Int)=y at x0
  have HX2:=hD (HX.out.set_ (2+k) (.int .i64 1))
  rw [← HE.out] at HX2
  have HZ2:=hD (HZ.out.far (p:=⟨w.heap.size,2+k,none⟩) (by simp) (.int .i64 1))
  have HB2:=hD (HB.out.setCell (p:=⟨w.heap.size,2+k,none⟩) (Nat.le_refl _) (.int .i64 1))
  go_enter Tryz.func66,Tryz.ntmps66
  go_upto_region 1 with(fail)
  rw [← HZE.out]
  obtain⟨w1,hw1⟩:∃ w1,(w.alloc (.cells A 95)).alloc (.cells O 95)=w1:=⟨_,rfl⟩
  obtain⟨g,hg⟩:∃ g,w.heap.size=g:=⟨_,rfl⟩
  rw [hw1] at HX HX2 HZ2 HB2 x0 z0 ⊢
  rw [hg] at HX HX2 HZ2 HB2 x0 z0 ⊢
  clear hw1 HZE HB HZ
  go_wp2_with (first | (refine zw zr zd (by rfl) (.tmp 2) rfl g 0 rfl C (zf HX2.out) HSZ.out ?_) | (refine za zd rfl (.tmp 4) (.tmp 16) rfl (g+1) 0 C rfl rfl (zi HZ2.out (by rw [HZS.out];decide)) HSZ.out HS1.out ?_))
  exact bodyPost_ret (zz1 zr zd rfl _ _ (g+1) C rfl (zi1 HZ2.out (HSZ.out.trans HZS.out.symm)) HSZ.out) rfl ⟨rfl,by first | exact zu C.toList _ _ 0 HB2.out (by omega) | (rw [hg];exact zu C.toList _ _ 0 HB2.out (by omega))⟩
theorem zn5 {s:VSt} (hs:StOk s) (n:Nat) (hn:n≤8) (w:World) :
  Calls Tryz.prog 69 #[.agg (stA s),.int .i64 n] w fun e w'=>e=.returned (.bool (coverV s n))∧Below w.heap.size w w':=by
 have HB:=hD (zc w (.cells (stA s) 95))
 have hx:=Box.new w 95 (stA s)
 have x0:=hx.cell 0
 rw [stA_x] at x0
 have hf:=zy5 hn
 have HF:=hD (fun w=>zi7 n hn w)
 have HO:=hD (fun w=>zj14 s.x (2 ^ n - 1) hs.x (Nat.lt_of_lt_of_le hf (by decide)) w)
 have HR:Hid (coverV s (n:Int)=decide (s.x &&& (2 ^ n - 1)=2 ^ n - 1)):=hD (by unfold coverV;rw [Int.toNat_natCast])
 generalize coverV s (n:Int)=res at HR ⊢
 generalize stA s=A at HB x0 ⊢
 generalize s.x=x at x0 HO HR
 generalize 2 ^ n - 1=f at HF HO HR
 generalize x &&& f=c at HO HR
 have HE:Hid (((c:Int) == (f:Int))=res):=hD (by
  rw [HR.out,Bool.eq_iff_iff,beq_iff_eq,decide_eq_true_eq]
  omega)
 clear hx hf hs
 go_enter Tryz.func69,Tryz.ntmps69
 go_upto_region 1 with(fail)
 obtain⟨w1,hw1⟩:∃ w1,w.alloc (.cells A 95)=w1:=⟨_,rfl⟩
 obtain⟨g,hg⟩:∃ g,w.heap.size=g:=⟨_,rfl⟩
 rw [hw1] at HB x0 ⊢
 rw [hg] at x0 ⊢
 clear hw1
 go_quiet (first | (go_at_call 30;exact Calls.quiet_of_same ((HF.out _).mono fun _ _ h=>⟨h.1,h.2.symm⟩)) | (go_at_call 71;exact Calls.quiet_of_same ((HO.out _).mono fun _ _ h=>⟨h.1,h.2.symm⟩)))
 go_wp2
 go_ret
 exact⟨by rw [← HE.out];rfl,by first | exact bel_dn HB.out _ | (rw [← hg];exact bel_dn HB.out _)⟩
theorem ze3 (op:Int) (w:World) :
  Calls Tryz.prog 33 #[.int .i64 op] w fun e w'=>e=.returned (.bool (onV op))∧w=w':=by
 obtain⟨res,hres⟩:∃ res,onV op=res:=⟨_,rfl⟩
 rw [hres]
 have HR:=hD hres
 clear hres
 by_cases h0:op=0
 ·subst h0
  go_enter Tryz.func33,Tryz.ntmps33
  go_wp2
  go_ret
  exact⟨by rw [← HR.out];rfl,rfl⟩
 by_cases h1:op=18
 ·subst h1
  go_enter Tryz.func33,Tryz.ntmps33
  go_wp2
  go_ret
  exact⟨by rw [← HR.out];rfl,rfl⟩
 by_cases h2:op=19
 ·subst h2
  go_enter Tryz.func33,Tryz.ntmps33
  go_wp2
  go_ret
  exact⟨by rw [← HR.out];rfl,rfl⟩
 by_cases h3:op=26
 ·subst h3
  go_enter Tryz.func33,Tryz.ntmps33
  go_wp2
  go_ret
  exact⟨by rw [← HR.out];rfl,rfl⟩
 have HT:Hid (res=true):=hD (by rw [← HR.out,onV,decide_eq_false h0,decide_eq_false h1,decide_eq_false h2,decide_eq_false h3];rfl)
 clear HR
 have e0:(op != 0)=true:=bne_iff_ne.2 h0
 have e1:(op != 18)=true:=bne_iff_ne.2 h1
 have e2:(op != 19)=true:=bne_iff_ne.2 h2
 have e3:(op != 26)=true:=bne_iff_ne.2 h3
 go_enter Tryz.func33,Tryz.ntmps33
 go_wp2
 go_ret
 exact⟨by rw [HT.out];rfl,rfl⟩
end Go.Proofs.YtlmbiafloiompaaGreatDoor
