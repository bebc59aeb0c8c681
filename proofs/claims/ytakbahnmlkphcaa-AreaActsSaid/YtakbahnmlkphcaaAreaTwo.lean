/-
  The calls of package area that write or make memory, each by a contract. Conditions: the row is the call's own, no longer than 65536 cells.
-/
import Derived.Test.YtakbahnmlkphcaaArea
import Derived.Deep.DeepMust
import Derived.Outline
namespace Go.Proofs.Ytakbahnmlkphcaa
open Go Go.RowKit
set_option linter.unusedVariables false

theorem info37 : (Try.prog.info? 37).map (fun i => (i.zero, i.size, i.bytes)) = some (some (.int .u64 0), 1, 8) := by kernel_rfl
theorem info23 : (Try.prog.info? 23).map (fun i => (i.zero, i.size, i.bytes)) = some (some (.int .u64 0), 1, 8) := by kernel_rfl

theorem new_ok (room : Int) (w : World) (h0 : 0 ≤ room) (h1 : room ≤ 65536) :
    Calls Try.prog 5 #[.int .i64 room] w fun e w' =>
      e = .returned (.tuple #[.pointer (some ⟨w.heap.size, 0, none⟩), .int .i64 0]) ∧ w.alloc (.cells #[.slice none 0 0, .int .i64 room] 57) = w' := by
  go_enter Try.func5, Try.ntmps5
  go_wp2
  go_ret2
  exact ⟨rfl, rfl⟩

theorem new_no (room : Int) (w : World) (h : room < 0 ∨ 65536 < room) :
    Calls Try.prog 5 #[.int .i64 room] w fun e w' => e = .returned (.tuple #[.pointer none, .int .i64 1]) ∧ w = w' := by
  by_cases c1 : room < 0
  · clear h
    go_enter Try.func5, Try.ntmps5
    go_wp2
    go_ret2
    exact ⟨rfl, rfl⟩
  · have c2 : 65536 < room := by omega
    clear h
    go_enter Try.func5, Try.ntmps5
    go_wp2
    go_ret2
    exact ⟨rfl, rfl⟩

theorem Ar.new (w : World) {base : Nat} (hb : base ≤ w.heap.size) (room : Int) : Ar (w.alloc (.cells #[.slice none 0 0, .int .i64 room] 57)) base w.heap.size (.slice none 0 0) [] room :=
  ⟨Box.new _ _ _, hb, World.ownsRow_nil _ _ _ _⟩

theorem push_nil (c : Int) (w : World) : Calls Try.prog 10 #[.pointer none, .int .u64 c] w fun e w' => e = .returned (.bool false) ∧ w = w' := by
  go_enter Try.func10, Try.ntmps10
  go_wp2_with (go_at_call 21; refine (free_nil _).mono ?_; rintro e w' ⟨rfl, rfl⟩)
  go_ret
  exact ⟨rfl, rfl⟩

theorem push_no {w : World} {base g : Nat} {v : Value} {xs : List Int} {room c : Int} (h : Ar w base g v xs room) (hl : xs.length ≤ room) (hr : room ≤ 65536) (hw : (Lit.int .u64 c).wf = true)
    (hn : room = xs.length ∨ cellOk c = false) :
    Calls Try.prog 10 #[.pointer (some ⟨g, 0, none⟩), .int .u64 c] w fun e w' => e = .returned (.bool false) ∧ ∃ n, w' = w.drewN n := by
  have HW := Lib.hid hw
  by_cases c1 : room = xs.length
  · have c2 : room - xs.length < 1 := by omega
    clear hn hw c1
    go_enter Try.func10, Try.ntmps10
    go_wp2_with (go_at_call 21; refine (free_ar h hl hr).mono ?_; rintro e w' ⟨rfl, n, rfl⟩)
    go_ret
    exact ⟨rfl, _, rfl⟩
  · have c2 : ¬ room - xs.length < 1 := by omega
    have HC := Lib.hid (hn.resolve_left c1)
    clear hn hw c1
    go_enter Try.func10, Try.ntmps10
    go_wp2_with (first
      | (go_at_call 21; refine (free_ar h hl hr).mono ?_; rintro e w' ⟨rfl, n, rfl⟩)
      | (go_at_call 7; refine (right_is _ HW.out HC.out _).mono ?_; rintro e w' ⟨rfl, rfl⟩))
    go_ret
    exact ⟨rfl, _, rfl⟩

/-- Behind a Push. -/
def Pushed (base g : Nat) (v : Value) (xs : List Int) (room c : Int) (w w' : World) : Prop :=
  ∃ v', Ar w' base g v' (xs ++ [c]) room ∧ Fr (fun k => k = g ∨ v.ownBlock = some k) w w'

theorem push_yes {w : World} {base g : Nat} {v : Value} {xs : List Int} {room c : Int} (h : Ar w base g v xs room) (hl : xs.length < room) (hr : room ≤ 65536) (hw : (Lit.int .u64 c).wf = true)
    (hc : cellOk c = true) :
    Calls Try.prog 10 #[.pointer (some ⟨g, 0, none⟩), .int .u64 c] w fun e w' => e = .returned (.bool true) ∧ Pushed base g v xs room c w w' := by
  have HW := Lib.hid hw
  have HC := Lib.hid hc
  have HT := Lib.hid h
  obtain ⟨hb, hgb, ho⟩ := h
  obtain ⟨A, cp, rfl, _⟩ := own_form ho
  have h0 : w.cell? ⟨g, 0, none⟩ = some (.slice A xs.length cp) := hb.cell 0
  have hlt := hb.lt
  obtain ⟨i0, hi, hz0, hz1, hz2⟩ := info_parts info37
  clear hw hc
  have c2 : ¬ room - xs.length < 1 := by omega
  go_enter Try.func10, Try.ntmps10
  go_wp2_with (first
    | (go_at_call 21; refine (free_ar HT.out (by omega) hr).mono ?_; rintro e w' ⟨rfl, n, rfl⟩)
    | (go_at_call 7; refine (right_is _ HW.out HC.out _).mono ?_; rintro e w' ⟨rfl, rfl⟩)
    | (at_builtin; refine wpList_append_own _ rfl _ _ 50 rfl base 37 i0 (.int .u64 0) 1 8 Try.underlying50 hi hz0 hz1 hz2 rfl (by decide) _ _ _ rfl (ho.alloc _) ⟨w.heap.size, 0, none⟩ 1 1 [.int .u64 c] rfl rfl ?c1 ?c2 ?c3 ?c4 ?c5 ?_))
  case c1 => exact cell_one_new (w.drewN n) _ _
  case c2 => exact one_word _ _
  case c3 => unfold maxLen; omega
  case c4 => omega
  case c5 => have := ho.lt; simp; omega
  intro v' w1 hown' hgrow _
  have hb1 : Box w1 g 57 #[.slice A xs.length cp, .int .i64 room] :=
    ((hb.drewN n).alloc _).fr (S := fun k => (Value.slice A xs.length cp).ownBlock = some k) (Fr.of_grown hgrow (fun _ _ e => e)) (fun e => own_ne_box ho hb (by decide) _ e rfl)
  have hf1 : Fr (fun k => k = g ∨ (Value.slice A xs.length cp).ownBlock = some k) w w1 := (((Fr.refl _ w).drewN n).alloc _).trans (Fr.of_grown hgrow (fun _ _ e => .inr e))
  have h1 : w1.cell? ⟨g, 0, none⟩ = some (.slice A xs.length cp) := hb1.cell 0
  have h2 : w1.frozen? ⟨g, 0, none⟩ = false := hb1.frozen 0
  obtain ⟨A', cp', hv', _⟩ := own_form hown'
  rw [hv'] at hown' ⊢
  clear h0 hv'
  go_wp2
  go_ret
  refine ⟨rfl, .slice A' (xs.length + 1) cp', ⟨?_, hgb, ?_⟩, hf1.setCell (.inl (.inl rfl)) _⟩
  · simpa using hb1.set_ 0 (.slice A' (xs.length + 1) cp')
  · have := own_set_far hown' (p := ⟨g, 0, none⟩) (own_ne_box hown' hb1 (by decide)) (.slice A' (xs.length + 1) cp')
    simpa using this

theorem set_nil (c : Int) (w : World) : Calls Try.prog 16 #[.pointer none, .int .i64 0, .int .u64 c] w fun e w' => e = .returned (.bool false) ∧ w = w' := by
  go_enter Try.func16, Try.ntmps16
  go_wp2_with (go_at_call 25; refine (has_nil 0 _ (by omega)).mono ?_; rintro e w' ⟨rfl, rfl⟩)
  go_ret
  exact ⟨rfl, rfl⟩

theorem set_no {w : World} {base g : Nat} {v : Value} {xs : List Int} {room i c : Int} (h : Ar w base g v xs room) (hw : (Lit.int .u64 c).wf = true)
    (hn : (i < 0 ∨ xs.length ≤ i) ∨ cellOk c = false) :
    Calls Try.prog 16 #[.pointer (some ⟨g, 0, none⟩), .int .i64 i, .int .u64 c] w fun e w' => e = .returned (.bool false) ∧ w = w' := by
  have HW := Lib.hid hw
  by_cases c1 : i < 0 ∨ xs.length ≤ i
  · have H1 := Lib.hid c1
    clear hn hw c1
    go_enter Try.func16, Try.ntmps16
    go_wp2_with (go_at_call 25; refine (has_no h H1.out).mono ?_; rintro e w' ⟨rfl, rfl⟩)
    go_ret
    exact ⟨rfl, rfl⟩
  · have HC := Lib.hid (hn.resolve_left c1)
    have c2 : 0 ≤ i := by omega
    have c3 : i < xs.length := by omega
    clear hn hw c1
    go_enter Try.func16, Try.ntmps16
    go_wp2_with (first
      | (go_at_call 25; refine (has_yes h (by omega) (by omega)).mono ?_; rintro e w' ⟨rfl, rfl⟩)
      | (go_at_call 7; refine (right_is _ HW.out HC.out _).mono ?_; rintro e w' ⟨rfl, rfl⟩))
    go_ret
    exact ⟨rfl, rfl⟩

/-- Behind a Set. -/
def WasSet (base g : Nat) (v : Value) (xs : List Int) (k : Nat) (room c : Int) (w w' : World) : Prop :=
  Ar w' base g v (xs.set k c) room ∧ Fr (fun k => k = g ∨ v.ownBlock = some k) w w'

/-- A store into an Area's row. -/
theorem Ar.stored {w : World} {base g b : Nat} {cp : Nat} {xs : List Int} {room : Int} (h : Ar w base g (.slice (some ⟨b, 0, none⟩) xs.length cp) xs room) (k : Nat) (c : Int) :
    WasSet base g (.slice (some ⟨b, 0, none⟩) xs.length cp) xs k room c w (w.setCell ⟨b, k, none⟩ (.int .u64 c)) := by
  obtain ⟨hb, hgb, ho⟩ := h
  refine ⟨⟨hb.far (own_ne_box ho hb (by decide) b rfl).symm _, hgb, ?_⟩, (Fr.refl _ w).setCell (.inl (.inr rfl)) _⟩
  have := (ho.stored k (.int .u64 c)).1
  simpa using this

theorem set_yes {w : World} {base g : Nat} {v : Value} {xs : List Int} {room c : Int} {k : Nat} (h : Ar w base g v xs room) (hw : (Lit.int .u64 c).wf = true) (hc : cellOk c = true) (hk : k < xs.length) (hm : xs.length ≤ 65536) :
    Calls Try.prog 16 #[.pointer (some ⟨g, 0, none⟩), .int .i64 k, .int .u64 c] w fun e w' => e = .returned (.bool true) ∧ WasSet base g v xs k room c w w' := by
  have HW := Lib.hid hw
  have HC := Lib.hid hc
  have HT := Lib.hid h
  obtain ⟨hb, hgb, ho⟩ := h
  obtain ⟨A, cp, rfl, _⟩ := own_form ho
  have h0 : w.cell? ⟨g, 0, none⟩ = some (.slice A xs.length cp) := hb.cell 0
  obtain ⟨b, rfl, _, hcell, hfz⟩ := own_cell ho hk
  clear hw hc hb ho
  go_enter Try.func16, Try.ntmps16
  go_wp2_with (first
    | (go_at_call 25; refine (has_yes HT.out (by omega) (by omega)).mono ?_; rintro e w' ⟨rfl, rfl⟩)
    | (go_at_call 7; refine (right_is _ HW.out HC.out _).mono ?_; rintro e w' ⟨rfl, rfl⟩))
  go_ret
  exact ⟨rfl, HT.out.stored k c⟩

theorem cut_nil (i : Int) (w : World) : Calls Try.prog 17 #[.pointer none, .int .i64 i] w fun e w' => e = .returned (.bool false) ∧ w = w' := by
  go_enter Try.func17, Try.ntmps17
  go_wp2
  go_ret
  exact ⟨rfl, rfl⟩

theorem cut_no {w : World} {base g : Nat} {v : Value} {xs : List Int} {room i : Int} (h : Ar w base g v xs room) (h0 : i < 0 ∨ xs.length < i) :
    Calls Try.prog 17 #[.pointer (some ⟨g, 0, none⟩), .int .i64 i] w fun e w' => e = .returned (.bool false) ∧ w = w' := by
  obtain ⟨hb, _, ho⟩ := h
  obtain ⟨A, c, rfl, _⟩ := own_form ho
  have hc0 : w.cell? ⟨g, 0, none⟩ = some (.slice A xs.length c) := hb.cell 0
  clear hb ho
  by_cases c1 : i < 0
  · clear h0
    go_enter Try.func17, Try.ntmps17
    go_wp2
    go_ret
    exact ⟨rfl, rfl⟩
  · have c2 : (xs.length : Int) < i := by omega
    clear h0
    go_enter Try.func17, Try.ntmps17
    go_wp2
    go_ret
    exact ⟨rfl, rfl⟩

/-- Behind a Cut. -/
def WasCut (base g : Nat) (v : Value) (xs : List Int) (k : Nat) (room : Int) (w w' : World) : Prop :=
  ∃ v', Ar w' base g v' (xs.take k) room ∧ Fr (fun k => k = g ∨ v.ownBlock = some k) w w'

theorem cut_yes {w : World} {base g : Nat} {v : Value} {xs : List Int} {room : Int} {k : Nat} (h : Ar w base g v xs room) (hk : k ≤ xs.length) (hm : xs.length ≤ 65536) :
    Calls Try.prog 17 #[.pointer (some ⟨g, 0, none⟩), .int .i64 k] w fun e w' => e = .returned (.bool true) ∧ WasCut base g v xs k room w w' := by
  obtain ⟨hb, hgb, ho⟩ := h
  obtain ⟨A, c, rfl, hcap⟩ := own_form ho
  have hc0 : w.cell? ⟨g, 0, none⟩ = some (.slice A xs.length c) := hb.cell 0
  have hc1 : w.frozen? ⟨g, 0, none⟩ = false := hb.frozen 0
  have hkc : k ≤ c := by omega
  have hH : Hid (WasCut base g (.slice A xs.length c) xs k room w (w.setCell ⟨g, 0, none⟩ (.slice A k c))) := by
    have h1 := own_cut ho hk rfl
    have h2 : ((xs.map (Value.int .u64)).take k) = (xs.take k).map (Value.int .u64) := by rw [List.map_take]
    have h3 : (xs.take k).length = k := by simp; omega
    refine ⟨.slice A k c, ⟨by simpa using hb.set_ 0 (.slice A k c), hgb, ?_⟩, (Fr.refl _ w).setCell (.inl (.inl rfl)) _⟩
    rw [h3, ← h2]
    exact own_set_far h1 (p := ⟨g, 0, none⟩) (own_ne_box h1 hb (by decide)) _
  clear hb ho
  go_enter Try.func17, Try.ntmps17
  go_wp2
  go_ret
  exact ⟨rfl, hH.out⟩

end Go.Proofs.Ytakbahnmlkphcaa
