/-
  A term in words: the program's Text, by a contract. Conditions: the value reads as a tree; its words are less than 2^46 bytes; the decimal powers' table as laid.
-/
import Derived.Test.YtkfmagbaklikmaaDoorTxtB
import Derived.Lib.BufferRead
namespace Go.Proofs.YtkfmagbaklikmaaDoor
open Go Go.RowKit
set_option linter.unusedVariables false
set_option linter.unusedSimpArgs false

theorem textC_any (B : Nat) : ∀ f, TextC B f := by
  intro f
  induction f with
  | zero => intro t v w S sv n xs h; exact h.elim
  | succ f ih => exact text_step ih

theorem conv_row {w : World} {B : Nat} {v : Value} {l : List UInt8} (h : w.ownsRow B 5 1 v l.length (Lib.byteCells l)) :
    (convert 50 9 v).run Tryd.prog w = .ok (.string ⟨l.toArray⟩) w := by
  have u8 : Tryd.prog.underlying 5 = some (.int .u8) := by kernel_rfl
  rcases h.2 with ⟨rfl, h0⟩ | ⟨g, cap, cur, rfl, _, hg, h2, h3, h4, h5⟩
  · have : l = [] := List.eq_nil_of_length_eq_zero h0
    subst this
    exact Lib.run_convert_nil_bytes w _ _ _ 0 Tryd.underlying50 u8 uStr
  · refine run_convert_bytes_back w _ _ _ ⟨g, 0, none⟩ cap l Tryd.underlying50 u8 uStr (Lib.bytes_of_row hg ?_)
    rw [Nat.mul_one] at h5
    exact h5

theorem tab_up {B : Nat} {w w' : World} (hL : Laid B w) (hb : Below w.heap.size w w') : Lib.TabBelow Tryd.prog w.heap.size w' "internal/strconv.uint64pow10" .u64 Lib.pow10Tab := fun W hW =>
  hL.tab W ((hb.trans hW).mono hL.size)

theorem tText_any {f : Nat} {t : Tm} {v : Value} {w : World} {S : Nat → Prop} (h : Reads w S f t v) (hS : ∀ b, S b → b < w.heap.size) {B : Nat} (hL : Laid B w) (hn : t.text.length ≤ 70000000000000) :
    Calls Tryd.prog 7 #[v] w fun e w' => e = .returned (.string ⟨t.text.toArray⟩) ∧ Below w.heap.size w w' := by
  obtain ⟨k, n, s, A, l, c, rfl⟩ := h.form
  have hb : Below w.heap.size w (w.alloc (.cells #[.int .i64 k, .int .i64 n, .string s, .slice A l c] 28)) := (Below.refl _ w).alloc (Nat.le_refl _) _
  have hC := textC_any w.heap.size f t _ (w.alloc (.cells #[.int .i64 k, .int .i64 n, .string s, .slice A l c] 28)) S (.slice none 0 0) 0 [] (h.below hb hS) hS (World.ownsRow_nil _ _ _ _) hb.size (tab_up hL hb) (by omega)
  have HC := Lib.hid hC
  have HB := Lib.hid hb
  clear hC hb h
  go_enter Tryd.func7, Tryd.ntmps7
  go_wp2_with (go_at_call 23; refine HC.out.mono ?_; rintro e w5 ⟨v5, rfl, hown, hb5, _⟩; have hcv := conv_row (l := t.text) (by simpa using hown); have HB5 := Lib.hid (HB.out.trans hb5); clear hown hb5)
  go_ret
  exact ⟨rfl, HB5.out⟩
end Go.Proofs.YtkfmagbaklikmaaDoor
