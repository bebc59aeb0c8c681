/-
  The calls of package area, each by a contract over a row that reads as a list of cells. Conditions: the row is the call's own; no cell of it is frozen.
-/
import Derived.Test.YtakbahnmlkphcaaCell
import Derived.Deep.QuietTactic
import Derived.BigQuiet
import Derived.Lib.Hide
namespace Go.Proofs.Ytakbahnmlkphcaa
open Go Go.RowKit
set_option linter.unusedVariables false

/-- An Area in block g: its cells, and its room. -/
def Ar (w : World) (base g : Nat) (v : Value) (xs : List Int) (room : Int) : Prop :=
  Box w g 57 #[v, .int .i64 room] ∧ base ≤ g ∧ w.ownsRow base 37 1 v xs.length (xs.map (Value.int .u64))

theorem own_form {w : World} {base : Nat} {e : TypeId} {size n : Nat} {v : Value} {xs : List Value} (h : w.ownsRow base e size v n xs) : ∃ A c, v = .slice A n c ∧ n ≤ c := by
  rcases h.2 with ⟨rfl, rfl⟩ | ⟨g, cap, cur, rfl, _, _, hc, _⟩
  · exact ⟨_, _, rfl, Nat.le_refl _⟩
  · exact ⟨_, _, rfl, hc⟩

theorem Ar.drewN {w : World} {base g : Nat} {v : Value} {xs : List Int} {room : Int} (h : Ar w base g v xs room) (n : Nat) : Ar (w.drewN n) base g v xs room := ⟨h.1.drewN n, h.2.1, h.2.2⟩
theorem Ar.alloc {w : World} {base g : Nat} {v : Value} {xs : List Int} {room : Int} (h : Ar w base g v xs room) (o : Obj) : Ar (w.alloc o) base g v xs room := ⟨h.1.alloc o, h.2.1, h.2.2.alloc o⟩
theorem Ar.below {w w' : World} {base g : Nat} {v : Value} {xs : List Int} {room : Int} (h : Ar w base g v xs room) (hb : Below w.heap.size w w') : Ar w' base g v xs room :=
  ⟨h.1.below hb h.1.lt, h.2.1, own_fr (S := fun _ => False) h.2.2 (Fr.of_below hb) (fun _ _ x => x)⟩

theorem top_nil (w : World) : Calls Try.prog 20 #[.pointer none] w fun e w' => e = .returned (.int .i64 0) ∧ w = w' := by
  go_enter Try.func20, Try.ntmps20
  go_wp2
  go_ret
  exact ⟨rfl, rfl⟩

theorem top_ar {w : World} {base g : Nat} {v : Value} {xs : List Int} {room : Int} (h : Ar w base g v xs room) :
    Calls Try.prog 20 #[.pointer (some ⟨g, 0, none⟩)] w fun e w' => e = .returned (.int .i64 xs.length) ∧ w = w' := by
  obtain ⟨hb, _, ho⟩ := h
  obtain ⟨A, c, rfl, _⟩ := own_form ho
  have h0 : w.cell? ⟨g, 0, none⟩ = some (.slice A xs.length c) := hb.cell 0
  clear hb ho
  go_enter Try.func20, Try.ntmps20
  go_wp2
  go_ret
  exact ⟨rfl, rfl⟩

theorem free_nil (w : World) : Calls Try.prog 21 #[.pointer none] w fun e w' => e = .returned (.int .i64 0) ∧ w = w' := by
  go_enter Try.func21, Try.ntmps21
  go_wp2
  go_ret
  exact ⟨rfl, rfl⟩

theorem free_ar {w : World} {base g : Nat} {v : Value} {xs : List Int} {room : Int} (h : Ar w base g v xs room) (hl : xs.length ≤ room) (hr : room ≤ 65536) :
    Calls Try.prog 21 #[.pointer (some ⟨g, 0, none⟩)] w fun e w' => e = .returned (.int .i64 (room - xs.length)) ∧ ∃ n, w' = w.drewN n := by
  obtain ⟨hb, _, ho⟩ := h
  obtain ⟨A, c, rfl, _⟩ := own_form ho
  have h0 : w.cell? ⟨g, 0, none⟩ = some (.slice A xs.length c) := hb.cell 0
  have h1 : w.cell? ⟨g, 1, none⟩ = some (.int .i64 room) := hb.cell 1
  clear hb ho
  go_enter Try.func21, Try.ntmps21
  go_wp2
  go_quiet (fail)
  go_wp2
  go_ret
  exact ⟨rfl, _, rfl⟩


theorem has_nil (i : Int) (w : World) (hi : i ≤ 0) : Calls Try.prog 25 #[.pointer none, .int .i64 i] w fun e w' => e = .returned (.bool false) ∧ w = w' := by
  by_cases c1 : i = 0
  · subst c1
    go_enter Try.func25, Try.ntmps25
    go_wp2_with (go_at_call 20; refine (top_nil _).mono ?_; rintro e w' ⟨rfl, rfl⟩)
    go_ret
    exact ⟨rfl, rfl⟩
  · have h : ¬ 0 ≤ i := by omega
    go_enter Try.func25, Try.ntmps25
    go_wp2
    go_ret
    exact ⟨rfl, rfl⟩

theorem has_yes {w : World} {base g : Nat} {v : Value} {xs : List Int} {room i : Int} (h : Ar w base g v xs room) (h0 : 0 ≤ i) (h1 : i < xs.length) :
    Calls Try.prog 25 #[.pointer (some ⟨g, 0, none⟩), .int .i64 i] w fun e w' => e = .returned (.bool true) ∧ w = w' := by
  have HT := Lib.hid h
  clear h
  go_enter Try.func25, Try.ntmps25
  go_wp2_with (go_at_call 20; refine (top_ar HT.out).mono ?_; rintro e w' ⟨rfl, rfl⟩)
  go_ret
  exact ⟨rfl, rfl⟩

theorem has_no {w : World} {base g : Nat} {v : Value} {xs : List Int} {room i : Int} (h : Ar w base g v xs room) (h0 : i < 0 ∨ xs.length ≤ i) :
    Calls Try.prog 25 #[.pointer (some ⟨g, 0, none⟩), .int .i64 i] w fun e w' => e = .returned (.bool false) ∧ w = w' := by
  have HT := Lib.hid h
  clear h
  by_cases c1 : i < 0
  · clear h0
    go_enter Try.func25, Try.ntmps25
    go_wp2
    go_ret
    exact ⟨rfl, rfl⟩
  · have h1 : (xs.length : Int) ≤ i := by omega
    have h2 : 0 ≤ i := by omega
    clear h0
    go_enter Try.func25, Try.ntmps25
    go_wp2_with (go_at_call 20; refine (top_ar HT.out).mono ?_; rintro e w' ⟨rfl, rfl⟩)
    go_ret
    exact ⟨by simp; omega, rfl⟩

theorem get_nil (w : World) : Calls Try.prog 11 #[.pointer none, .int .i64 0] w fun e w' => e = .returned (.tuple #[.int .u64 0, .bool false]) ∧ w = w' := by
  go_enter Try.func11, Try.ntmps11
  go_wp2_with (go_at_call 25; refine (has_nil 0 _ (by omega)).mono ?_; rintro e w' ⟨rfl, rfl⟩)
  go_ret2
  exact ⟨rfl, rfl⟩

theorem get_no {w : World} {base g : Nat} {v : Value} {xs : List Int} {room i : Int} (h : Ar w base g v xs room) (h0 : i < 0 ∨ xs.length ≤ i) :
    Calls Try.prog 11 #[.pointer (some ⟨g, 0, none⟩), .int .i64 i] w fun e w' => e = .returned (.tuple #[.int .u64 0, .bool false]) ∧ w = w' := by
  have HT := Lib.hid h
  have H0 := Lib.hid h0
  clear h h0
  go_enter Try.func11, Try.ntmps11
  go_wp2_with (go_at_call 25; refine (has_no HT.out H0.out).mono ?_; rintro e w' ⟨rfl, rfl⟩)
  go_ret2
  exact ⟨rfl, rfl⟩

/-- The cell of an owned row of words. -/
theorem own_cell {w : World} {base : Nat} {e : TypeId} {A : Option Addr} {c : Nat} {xs : List Int} {k : Nat} (h : w.ownsRow base e 1 (.slice A xs.length c) xs.length (xs.map (Value.int .u64))) (hk : k < xs.length) :
    ∃ b, A = some ⟨b, 0, none⟩ ∧ base ≤ b ∧ w.cell? ⟨b, k, none⟩ = some (.int .u64 (xs.getD k 0)) ∧ w.frozen? ⟨b, k, none⟩ = false := by
  rcases h.2 with ⟨_, h1⟩ | ⟨b, cap, cur, he, hb, hg, _⟩
  · omega
  · simp only [Value.slice.injEq, true_and] at he
    obtain ⟨rfl, rfl⟩ := he
    refine ⟨b, rfl, hb, ?_, h.frozenAt k⟩
    rw [h.cellAt k (by omega)]
    simp [hk]

theorem get_yes {w : World} {base g : Nat} {v : Value} {xs : List Int} {room : Int} {k : Nat} (h : Ar w base g v xs room) (hk : k < xs.length) (hm : xs.length ≤ 65536) :
    Calls Try.prog 11 #[.pointer (some ⟨g, 0, none⟩), .int .i64 k] w fun e w' => e = .returned (.tuple #[.int .u64 (xs.getD k 0), .bool true]) ∧ w = w' := by
  have HT := Lib.hid h
  obtain ⟨hb, _, ho⟩ := h
  obtain ⟨A, c, rfl, _⟩ := own_form ho
  have h0 : w.cell? ⟨g, 0, none⟩ = some (.slice A xs.length c) := hb.cell 0
  obtain ⟨b, rfl, _, hcell, _⟩ := own_cell ho hk
  clear hb ho
  go_enter Try.func11, Try.ntmps11
  go_wp2_with (go_at_call 25; refine (has_yes HT.out (by omega) (by omega)).mono ?_; rintro e w' ⟨rfl, rfl⟩)
  go_ret2
  exact ⟨by simp [hk], rfl⟩

end Go.Proofs.Ytakbahnmlkphcaa
