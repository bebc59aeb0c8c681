/-
  Is a term told? (resolventlaw03.told), by a contract. Conditions: the library's variables as laid.
-/
import Derived.Test.YtkfmagbaklikmaaDoorParseG
import Derived.Test.YtkfmagbaklikmaaDoorTxtC
import Derived.Test.YtkfmagbaklikmaaDoorVarsB
import Derived.Test.YtkfmagbaklikmaaDoorTRight
import Derived.Test.YtkfmagbaklikmaaDoorTSize
import Derived.KernelRfl
namespace Go.Proofs.YtkfmagbaklikmaaDoor
open Go Go.RowKit
set_option linter.unusedVariables false
set_option linter.unusedSimpArgs false

def tolds : ByteArray := ⟨#[102, 40, 88, 49, 44, 91, 97, 124, 88, 48, 93, 41]⟩
def toldt : Tm := .node 2 0 ⟨#[102]⟩ [.node 0 1 ⟨#[]⟩ [], .node 3 0 ⟨#[]⟩ [.node 1 0 ⟨#[97]⟩ [], .node 0 0 ⟨#[]⟩ []]]
theorem itoa_digit (d : Nat) (h : d < 10) : Lib.itoa ((d : Nat) : Int) = [UInt8.ofNat (48 + d)] := by
  rcases (show d = 0 ∨ d = 1 ∨ d = 2 ∨ d = 3 ∨ d = 4 ∨ d = 5 ∨ d = 6 ∨ d = 7 ∨ d = 8 ∨ d = 9 by omega) with rfl | rfl | rfl | rfl | rfl | rfl | rfl | rfl | rfl | rfl
  all_goals (unfold Lib.itoa; simp; rw [Lib.decDigits]; rfl)
theorem told_parse : parseOf tolds = some toldt := by kernel_rfl
theorem told_parse2 : parseOf ⟨#[102, 40, 88, 48, 49, 41]⟩ = none := by kernel_rfl
theorem told_size : toldt.size = 5 := by kernel_rfl
theorem told_text : toldt.text = tolds.data.toList := by kernel_rfl
theorem told_right : toldt.right = true := by kernel_rfl
theorem told_vars : varsL [] [toldt] = [1, 0] := by kernel_rfl
def BW (w W : World) : Prop := Below w.heap.size w W
theorem two_row (w : World) (a b : Int) : (w.alloc (.cells #[.int .i64 a, .int .i64 b] 3)).ownsRow 0 3 1 (.slice (some ⟨w.heap.size, 0, none⟩) 2 2) 2 [.int .i64 a, .int .i64 b] :=
  ⟨rfl, .inr ⟨w.heap.size, 2, #[.int .i64 a, .int .i64 b], rfl, Nat.zero_le _, heap_alloc_new w _, Nat.le_refl _, by unfold maxLen; omega, rfl, rfl⟩⟩
theorem own_below2 {w w' : World} {B : Nat} {e : TypeId} {size n : Nat} {v : Value} {xs : List Value} (h : w.ownsRow B e size v n xs) (hb : Below w.heap.size w w') : w'.ownsRow B e size v n xs :=
  own_fr (S := fun _ => False) h (Fr.of_below hb) (fun _ _ x => x)
theorem told_text2 : (⟨toldt.text.toArray⟩ : ByteArray) = ⟨#[102, 40, 88, 49, 44, 91, 97, 124, 88, 48, 93, 41]⟩ := by
  rw [told_text]
  rfl

set_option maxHeartbeats 4000000 in
set_option maxRecDepth 100000 in
theorem told_any {B : Nat} {w : World} (hL : Laid B w) :
    Calls Tryd.prog 9 #[] w fun e w' => e = .returned (.bool true) ∧ Below w.heap.size w w' := by
  have HL := Lib.hid hL
  have hP1 := parse_any ⟨#[102, 40, 88, 49, 44, 91, 97, 124, 88, 48, 93, 41]⟩ (by unfold maxLen; simp [ByteArray.size]) hL
  rw [show parseOf ⟨#[102, 40, 88, 49, 44, 91, 97, 124, 88, 48, 93, 41]⟩ = some toldt from told_parse] at hP1
  have HP1 := Lib.hid hP1
  have hP2 := fun (W : World) (h : Laid B W) => parse_any ⟨#[102, 40, 88, 48, 49, 41]⟩ (by unfold maxLen; simp [ByteArray.size]) h
  rw [show parseOf ⟨#[102, 40, 88, 48, 49, 41]⟩ = none from told_parse2] at hP2
  have HP2 := Lib.hid hP2
  clear hP1 hP2 hL
  go_enter Tryd.func9, Tryd.ntmps9
  go_upto_region 1 with (fail)
  go_wp2_with (first
    | (go_at_call 8; first
        | (have _ := HP1; refine HP1.out.mono ?_; clear HP1; rintro e w1 ⟨v1, rfl, hr1, hb1⟩; obtain ⟨k1, n1, s1, A1, l1, cp1, hv1⟩ := hr1.form; rw [hv1] at hr1; rw [hv1]; clear hv1; have HB1 := Lib.hid (hb1.alloc hb1.size (.cells #[.int .i64 k1, .int .i64 n1, .string s1, .slice A1 l1 cp1] 28)); have HS1 := Lib.hid hb1.size; have HR1 := Lib.hid (hr1.alloc (fun b hb => hb.2) (.cells #[.int .i64 k1, .int .i64 n1, .string s1, .slice A1 l1 cp1] 28)); have HT1 := Lib.hid (Box.new w1 28 #[.int .i64 k1, .int .i64 n1, .string s1, .slice A1 l1 cp1]); clear hr1 hb1)
        | (refine (HP2.out _ (HL.out.below HB1.out HL.out.size)).mono ?_; rintro e w2 ⟨rfl, hb2⟩; have hb2' := hb2.alloc hb2.size (.cells #[.int .i64 0, .int .i64 0, .string ⟨#[]⟩, .slice none 0 0] 28); have HB2 := Lib.hid (HB1.out.trans (hb2'.mono HB1.out.size)); have HR2 := Lib.hid (HR1.out.below hb2' (fun b hb => by have := HT1.out.lt; simp; omega)); have HT2 := Lib.hid (HT1.out.below hb2' HT1.out.lt); clear hb2 hb2'; have x0 : (w2.alloc (.cells #[.int .i64 0, .int .i64 0, .string ⟨#[]⟩, .slice none 0 0] 28)).cell? ⟨w1.heap.size, 0, none⟩ = some (.int .i64 k1) := HT2.out.cell 0; have x1 : (w2.alloc (.cells #[.int .i64 0, .int .i64 0, .string ⟨#[]⟩, .slice none 0 0] 28)).cell? ⟨w1.heap.size, 1, none⟩ = some (.int .i64 n1) := HT2.out.cell 1; have x2 : (w2.alloc (.cells #[.int .i64 0, .int .i64 0, .string ⟨#[]⟩, .slice none 0 0] 28)).cell? ⟨w1.heap.size, 2, none⟩ = some (.string s1) := HT2.out.cell 2; have x3 : (w2.alloc (.cells #[.int .i64 0, .int .i64 0, .string ⟨#[]⟩, .slice none 0 0] 28)).cell? ⟨w1.heap.size, 3, none⟩ = some (.slice A1 l1 cp1) := HT2.out.cell 3))
    | (go_at_call 13; refine (tSize_tree _ toldt _ _ _ HR2.out (fun b hb => by have := HT2.out.lt; omega) (by rw [told_size]; omega)).mono ?_; rw [told_size]; rintro e w3 ⟨rfl, hb3⟩; have HB3 := Lib.hid (HB2.out.trans (hb3.mono HB2.out.size)); have HR3 := Lib.hid (HR2.out.below hb3 (fun b hb => by have := HT2.out.lt; omega)); have H3 := Lib.hid (HT2.out.below hb3 HT2.out.lt); clear hb3 x0 x1 x2 x3; have x0 : w3.cell? ⟨w1.heap.size, 0, none⟩ = some (.int .i64 k1) := H3.out.cell 0; have x1 : w3.cell? ⟨w1.heap.size, 1, none⟩ = some (.int .i64 n1) := H3.out.cell 1; have x2 : w3.cell? ⟨w1.heap.size, 2, none⟩ = some (.string s1) := H3.out.cell 2; have x3 : w3.cell? ⟨w1.heap.size, 3, none⟩ = some (.slice A1 l1 cp1) := H3.out.cell 3)
    | (go_at_call 7; refine (tText_any HR3.out (fun b hb => by have := H3.out.lt; omega) (HL.out.below HB3.out HL.out.size) (by rw [told_text]; decide)).mono ?_; rw [told_text2]; rintro e w4 ⟨rfl, hb4⟩; have HB4 := Lib.hid (HB3.out.trans (hb4.mono HB3.out.size)); have HR4 := Lib.hid (HR3.out.below hb4 (fun b hb => by have := H3.out.lt; omega)); have HT4 := Lib.hid (H3.out.below hb4 H3.out.lt); have HR4A := Lib.hid ((HR4.out.alloc (fun b hb => by have := HT4.out.lt; omega) (.cells #[.int .i64 k1, .int .i64 n1, .string s1, .slice A1 l1 cp1] 28)).more (S' := fun b => (w.heap.size ≤ b ∧ b < w1.heap.size) ∨ b = w4.heap.size) (fun b hb => .inl hb)); have HB4A := Lib.hid (HB4.out.alloc HB4.out.size (.cells #[.int .i64 k1, .int .i64 n1, .string s1, .slice A1 l1 cp1] 28)); have HT4A := Lib.hid (HT4.out.alloc (.cells #[.int .i64 k1, .int .i64 n1, .string s1, .slice A1 l1 cp1] 28)); have HR4B := Lib.hid (HR4.out.alloc (fun b hb => by have := HT4.out.lt; omega) (.cells #[.int .i64 k1, .int .i64 n1, .string s1, .slice A1 l1 cp1] 28)); clear hb4 x0 x1 x2 x3; have x0 : w4.cell? ⟨w1.heap.size, 0, none⟩ = some (.int .i64 k1) := HT4.out.cell 0; have x1 : w4.cell? ⟨w1.heap.size, 1, none⟩ = some (.int .i64 n1) := HT4.out.cell 1; have x2 : w4.cell? ⟨w1.heap.size, 2, none⟩ = some (.string s1) := HT4.out.cell 2; have x3 : w4.cell? ⟨w1.heap.size, 3, none⟩ = some (.slice A1 l1 cp1) := HT4.out.cell 3)
    | (go_at_call 16; refine (tVars_any [toldt] (some ⟨w4.heap.size, 0, none⟩) 1 (w4.alloc (.cells #[.int .i64 k1, .int .i64 n1, .string s1, .slice A1 l1 cp1] 28)) _ (Nat.le_refl _) (by unfold maxLen; omega) (fun i hi => by
        obtain rfl : i = 0 := by simp at hi; exact hi
        exact ⟨w4.heap.size, 0, .int .i64 k1, .int .i64 n1, .string s1, .slice A1 l1 cp1, rfl, .inr rfl, (Box.new w4 28 #[.int .i64 k1, .int .i64 n1, .string s1, .slice A1 l1 cp1]).cell 0, (Box.new w4 28 #[.int .i64 k1, .int .i64 n1, .string s1, .slice A1 l1 cp1]).cell 1, (Box.new w4 28 #[.int .i64 k1, .int .i64 n1, .string s1, .slice A1 l1 cp1]).cell 2, (Box.new w4 28 #[.int .i64 k1, .int .i64 n1, .string s1, .slice A1 l1 cp1]).cell 3, HR4A.out⟩) (fun b hb => by
        have := HT4.out.lt
        rcases hb with hb | rfl
        · simp; omega
        · simp) (by have := told_size; simp [sizes, this])).mono ?_; rw [told_vars]; rintro e w5 ⟨vs, rfl, hrow, hb5⟩; have HROW := Lib.hid hrow; have hb5' := hb5.alloc hb5.size (.cells #[.int .i64 1, .int .i64 0] 3); have HB5 := Lib.hid (HB4A.out.trans (hb5'.mono HB4A.out.size)); have HR5 := Lib.hid (HR4B.out.below hb5' (fun b hb => by have := HT4A.out.lt; omega)); have HT5 := Lib.hid (HT4A.out.below hb5' HT4A.out.lt); clear hb5 hb5' x0 x1 x2 x3; clear hrow)
    | (go_at_call 15; refine (ints_same (xs := [1, 0]) (by simp) (own_below2 HROW.out ((Below.refl w5.heap.size w5).alloc (Nat.le_refl _) _)) (two_row w5 1 0)).mono ?_; rintro e w6 ⟨rfl, mm, rfl⟩; have HB6 := Lib.hid (bel_drewN HB5.out mm); have HR6 := Lib.hid (HR5.out.drewN mm); have HT6 := Lib.hid (HT5.out.drewN mm); have x0 : ((w5.alloc (.cells #[.int .i64 1, .int .i64 0] 3)).drewN mm).cell? ⟨w1.heap.size, 0, none⟩ = some (.int .i64 k1) := HT6.out.cell 0; have x1 : ((w5.alloc (.cells #[.int .i64 1, .int .i64 0] 3)).drewN mm).cell? ⟨w1.heap.size, 1, none⟩ = some (.int .i64 n1) := HT6.out.cell 1; have x2 : ((w5.alloc (.cells #[.int .i64 1, .int .i64 0] 3)).drewN mm).cell? ⟨w1.heap.size, 2, none⟩ = some (.string s1) := HT6.out.cell 2; have x3 : ((w5.alloc (.cells #[.int .i64 1, .int .i64 0] 3)).drewN mm).cell? ⟨w1.heap.size, 3, none⟩ = some (.slice A1 l1 cp1) := HT6.out.cell 3)
    | (go_at_call 25; refine (tRight_tree _ toldt _ _ _ HR6.out (fun b hb => Nat.lt_trans hb.2 HT6.out.lt)).mono ?_; rw [told_right]; rintro e w7 ⟨rfl, hb7⟩; have HB7 := Lib.hid (HB6.out.trans (hb7.mono HB6.out.size))))
  go_ret
  exact ⟨rfl, HB7.out⟩
end Go.Proofs.YtkfmagbaklikmaaDoor
