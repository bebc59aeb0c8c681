/-
 The document's big,operand,num,name: each by its plain words.
-/
import Derived.Test.YtlmbiafloiompaaGreatDoorJO05
set_option linter.unusedVariables false
set_option linter.unusedSimpArgs false
namespace Go.Proofs.YtlmbiafloiompaaGreatDoor
open Go Go.RowKit Go.WideShapes Go.ChangeShapes
theorem big_any (a f p c:Nat) (w:World) :
  Calls Tryz.prog 60 #[.int .i64 a,.int .i64 f,.int .i64 p,.int .i64 c] w fun e w'=>e=.returned (.bool (bigB a f p c))∧w=w':=by
 have hb:bigB a f p c=(decide ((256:Int)<a) || decide ((256:Int)<f) || decide ((64:Int)<p) || decide ((1024:Int)<c)):=by
  unfold bigB
  rw [Bool.eq_iff_iff]
  simp
  omega
 rw [hb]
 clear hb
 by_cases h1:(256:Int)<(a:Int)
 ·go_enter Tryz.func60,Tryz.ntmps60
  go_wp2
  go_ret
  exact⟨ret_b (by simp [h1]),rfl⟩
 ·by_cases h2:(256:Int)<(f:Int)
  ·go_enter Tryz.func60,Tryz.ntmps60
   go_wp2
   go_ret
   exact⟨ret_b (by simp [h2]),rfl⟩
  ·by_cases h3:(64:Int)<(p:Int)
   ·go_enter Tryz.func60,Tryz.ntmps60
    go_wp2
    go_ret
    exact⟨ret_b (by simp [h3]),rfl⟩
   ·go_enter Tryz.func60,Tryz.ntmps60
    go_wp2
    go_ret
    exact⟨ret_b (by simp;omega),rfl⟩
theorem roper_any (A1 A2 A3 A4:Option Addr) (a c1 f c2 p c3 c c4:Nat) (kind n:Int) (hn:kind=3 ∨ kind=4 ∨ kind=7 ∨ kind=8→0≤n) (w:World) :
  Calls Tryz.prog 63 #[.agg #[.slice A1 a c1,.slice A2 f c2,.slice A3 p c3,.slice A4 c c4],.int .i64 kind,.int .i64 n] w fun e w'=>e=.returned (.bool (thereB a f p c kind n))∧Below w.heap.size w w':=by
 have HB:=hD (za w (.cells #[.slice A1 a c1,.slice A2 f c2,.slice A3 p c3,.slice A4 c c4] 27))
 by_cases h3:kind=3
 ·subst h3
  have h0:=hn (.inl rfl)
  go_enter Tryz.func63,Tryz.ntmps63
  go_wp2
  go_ret
  exact⟨ret_b (by simp [thereB,h0]),HB.out⟩
 have h3':(kind == 3)=false:=by simpa using h3
 by_cases h4:kind=4
 ·subst h4
  have h0:=hn (.inr (.inl rfl))
  go_enter Tryz.func63,Tryz.ntmps63
  go_wp2
  go_ret
  exact⟨ret_b (by simp [thereB,h0]),HB.out⟩
 have h4':(kind == 4)=false:=by simpa using h4
 by_cases h7:kind=7
 ·subst h7
  have h0:=hn (.inr (.inr (.inl rfl)))
  go_enter Tryz.func63,Tryz.ntmps63
  go_wp2
  go_ret
  exact⟨ret_b (by simp [thereB,h0]),HB.out⟩
 have h7':(kind == 7)=false:=by simpa using h7
 by_cases h8:kind=8
 ·subst h8
  have h0:=hn (.inr (.inr (.inr rfl)))
  by_cases hc:n<(c:Int)
  ·go_enter Tryz.func63,Tryz.ntmps63
   go_wp2
   go_ret
   exact⟨ret_b (by rw [Bool.eq_iff_iff];simp [thereB];omega),HB.out⟩
  ·go_enter Tryz.func63,Tryz.ntmps63
   go_wp2
   go_ret
   exact⟨ret_b (by rw [Bool.eq_iff_iff];simp [thereB];omega),HB.out⟩
 have h8':(kind == 8)=false:=by simpa using h8
 have he:thereB a f p c kind n=true:=by
  unfold thereB
  rw [if_neg h3,if_neg h4,if_neg h7,if_neg h8]
 rw [he]
 clear he
 go_enter Tryz.func63,Tryz.ntmps63
 go_wp2
 go_ret
 exact⟨rfl,HB.out⟩
end Go.Proofs.YtlmbiafloiompaaGreatDoor
