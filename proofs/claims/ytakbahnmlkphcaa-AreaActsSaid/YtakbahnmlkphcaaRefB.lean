/-
  The document's own Area (resolventref02): Push, Set, and the statement's two readers, each by a contract. Conditions: the rows are the call's own, no longer than 65536 words.
-/
import Derived.Test.YtakbahnmlkphcaaRefA
import Derived.LoopTactic
namespace Go.Proofs.Ytakbahnmlkphcaa
open Go Go.RowKit
set_option linter.unusedVariables false

/-- Behind a Push of the document's. -/
def RPushed (base g : Nat) (xs : List Int) (room c : Int) (w w' : World) : Prop :=
  ∃ v', Rf w' base g v' (xs ++ [c]) room ∧ Fr (fun k => k = g) w w'

/-- Behind both appends of Push. -/
theorem rpush_after {w w0 w2 : World} {base g : Nat} {A : Option Addr} {cp : Nat} {xs : List Int} {room c : Int} {v1 v2 : Value} (h : Rf w base g (.slice A xs.length cp) xs room) (hB : base ≤ w.heap.size)
    (e0 : Hid (Below w.heap.size w w0)) (ho1 : w0.ownsRow w.heap.size 23 1 v1 xs.length (xs.map (Value.int .u64)))
    (ho2 : w2.ownsRow w.heap.size 23 1 v2 (xs.length + 1) (List.map (Value.int .u64) xs ++ [.int .u64 c]))
    (hg2 : (w0.alloc (.cells #[.int .u64 c] 23)).grownBy w2 v1.ownBlock) :
    ∃ A' cp', v2 = .slice A' (xs.length + 1) cp' ∧ w2.cell? ⟨g, 0, none⟩ = some (.slice A xs.length cp) ∧ w2.frozen? ⟨g, 0, none⟩ = false ∧
      Hid (RPushed base g xs room c w (w2.setCell ⟨g, 0, none⟩ v2)) := by
  obtain ⟨hb, hgb, ho⟩ := h
  have hB2 : Below w.heap.size w w2 := (e0.out.alloc e0.out.size _).grown hg2 (by have := e0.out.size; simp; omega) (fun k hk => (ho1.lt k hk).1)
  have hb2 := hb.below hB2 hb.lt
  obtain ⟨A', cp', hv', _⟩ := own_form ho2
  have ho3 := own_more (base' := base) ho2 (fun k hk => by have := (ho2.lt k hk).1; omega)
  refine ⟨A', cp', hv', hb2.cell 0, hb2.frozen 0, v2, ⟨?_, hgb, ?_⟩, (Fr.of_below (S := fun k => k = g) hB2).setCell (p := ⟨g, 0, none⟩) (.inl rfl) _⟩
  · simpa using hb2.set_ 0 v2
  · have := own_set_far ho3 (p := ⟨g, 0, none⟩) (own_ne_box ho3 hb2 (by decide)) v2
    simpa using this

theorem rpush_yes {w : World} {base g : Nat} {v : Value} {xs : List Int} {room c : Int} (h : Rf w base g v xs room) (hl : xs.length < room) (hr : room ≤ 65536) (hw : (Lit.int .u64 c).wf = true) (hc : cellOk c = true) (hB : base ≤ w.heap.size) :
    Calls Try.prog 9 #[.pointer (some ⟨g, 0, none⟩), .int .u64 c] w fun e w' => e = .returned (.bool true) ∧ RPushed base g xs room c w w' := by
  have HW := Lib.hid hw
  have HC := Lib.hid hc
  have HT := Lib.hid h
  obtain ⟨hb, hgb, ho⟩ := h
  obtain ⟨A, cp, rfl, _⟩ := own_form ho
  have h0 : w.cell? ⟨g, 0, none⟩ = some (.slice A xs.length cp) := hb.cell 0
  have h1 : w.cell? ⟨g, 1, none⟩ = some (.int .i64 room) := hb.cell 1
  have hlt := hb.lt
  obtain ⟨i0, hi, hz0, hz1, hz2⟩ := info_parts info23
  have c2 : decide (room ≤ (xs.length : Int)) = false := by simp; omega
  clear hw hc hb
  go_enter Try.func9, Try.ntmps9
  go_wp2_with fail
  go_quiet ((go_at_call 24; exact Calls.quiet_of_same ((refRight_is _ HW.out HC.out _).mono fun _ _ h => ⟨h.1, h.2.symm⟩)))
  have h2 : ∀ o, ((w.drewN nq).alloc o).cell? ⟨g, 0, none⟩ = some (.slice A xs.length cp) := fun o => ((HT.out.1.drewN nq).alloc o).cell 0
  go_wp2_with (at_builtin; refine wpList_append_both _ rfl (.tmp 21) (.tmp 25) 32 rfl w.heap.size 23 i0 (.int .u64 0) 1 8 Try.underlying32 hi hz0 hz1 hz2 rfl (by decide) _ _ _ rfl (World.ownsRow_made w #[] 0 (Nat.le_refl _) (by decide) rfl) base _ xs.length (xs.map (Value.int .u64)) rfl (ho.alloc _) (words_one xs) ?c1 ?c2 ?c3 ?_)
  case c1 => unfold maxLen; omega
  case c2 => omega
  case c3 => simp
  intro v1 w1 hown1 hgrow1
  have e0 : Hid (Below w.heap.size w w1) := ((below_drewN (Below.refl _ w) nq).alloc (Nat.le_refl _) _).grown hgrow1 (by simp) (by simp [Value.ownBlock])
  clear h0 h1 h2 ho hgrow1
  have hb1 := HT.out.1.below e0.out hlt
  have k0 : w1.cell? ⟨g, 0, none⟩ = some (.slice A xs.length cp) := hb1.cell 0
  have hs1 := e0.out.size
  obtain ⟨A1, cp1, hv1, _⟩ := own_form hown1
  rw [hv1] at hown1 ⊢
  clear hv1 hb1
  go_wp2_with (at_builtin; refine wpList_append_own _ rfl (.tmp 26) (.tmp 28) 32 rfl w.heap.size 23 i0 (.int .u64 0) 1 8 Try.underlying32 hi hz0 hz1 hz2 rfl (by decide) _ _ _ rfl (hown1.alloc _) ⟨w1.heap.size, 0, none⟩ 1 1 [.int .u64 c] rfl rfl ?d1 ?d2 ?d3 ?d4 ?d5 ?_)
  case d1 => exact cell_one_new _ _ _
  case d2 => exact one_word _ _
  case d3 => unfold maxLen; omega
  case d4 => omega
  case d5 => simp; omega
  intro v2 w2 hown2 hgrow2 hz
  obtain ⟨A2, cp2, hv2, k1, k2, k3⟩ := rpush_after HT.out hB e0 hown1 hown2 hgrow2
  rw [hv2] at k3 ⊢
  clear hv2 hz hgrow2 hown2 hown1 k0
  go_wp2
  go_ret
  exact ⟨rfl, k3.out⟩

theorem rset_no {w : World} {base g : Nat} {v : Value} {xs : List Int} {room i c : Int} (h : Rf w base g v xs room) (hw : (Lit.int .u64 c).wf = true)
    (hn : (i < 0 ∨ xs.length ≤ i) ∨ cellOk c = false) :
    Calls Try.prog 15 #[.pointer (some ⟨g, 0, none⟩), .int .i64 i, .int .u64 c] w fun e w' => e = .returned (.bool false) ∧ w = w' := by
  have HW := Lib.hid hw
  obtain ⟨hb, hgb, ho⟩ := h
  obtain ⟨A, cp, rfl, _⟩ := own_form ho
  have h0 : w.cell? ⟨g, 0, none⟩ = some (.slice A xs.length cp) := hb.cell 0
  clear hb ho
  by_cases c1 : i < 0
  · clear hn hw
    go_enter Try.func15, Try.ntmps15
    go_wp2
    go_ret
    exact ⟨rfl, rfl⟩
  · by_cases c2 : (xs.length : Int) ≤ i
    · clear hn hw
      go_enter Try.func15, Try.ntmps15
      go_wp2
      go_ret
      exact ⟨rfl, rfl⟩
    · have HC := Lib.hid (hn.resolve_left (by omega))
      clear hn hw
      go_enter Try.func15, Try.ntmps15
      go_wp2_with (go_at_call 24; refine (refRight_is _ HW.out HC.out _).mono ?_; rintro e w' ⟨rfl, rfl⟩)
      go_ret
      exact ⟨rfl, rfl⟩

/-- Behind a Set of the document's. -/
def RWasSet (base g : Nat) (xs : List Int) (k : Nat) (room c : Int) (w w' : World) : Prop :=
  ∃ v', Rf w' base g v' (xs.set k c) room ∧ Fr (fun k => k = g) w w'

/-- Behind the append of Set. -/
theorem rset_after {w w1 : World} {base g k : Nat} {A : Option Addr} {cp : Nat} {xs : List Int} {room c : Int} {v1 : Value} (h : Rf w base g (.slice A xs.length cp) xs room) (hB : base ≤ w.heap.size) (hk : k < xs.length)
    (e0 : Below w.heap.size w w1) (ho1 : w1.ownsRow w.heap.size 23 1 v1 xs.length (xs.map (Value.int .u64))) :
    ∃ b cp', v1 = .slice (some ⟨b, 0, none⟩) xs.length cp' ∧ b ≠ g ∧ xs.length ≤ cp' ∧ w1.cell? ⟨g, 0, none⟩ = some (.slice A xs.length cp) ∧ w1.frozen? ⟨g, 0, none⟩ = false ∧ w1.cell? ⟨b, k, none⟩ = some (.int .u64 (xs.getD k 0)) ∧ w1.frozen? ⟨b, k, none⟩ = false ∧
      Hid (RWasSet base g xs k room c w ((w1.setCell ⟨g, 0, none⟩ v1).setCell ⟨b, k, none⟩ (.int .u64 c))) := by
  obtain ⟨hb, hgb, ho⟩ := h
  have hb1 := hb.below e0 hb.lt
  obtain ⟨A', cp', rfl, hcp⟩ := own_form ho1
  obtain ⟨b, rfl, hbb, hcell, hfz⟩ := own_cell ho1 hk
  have hbg : b ≠ g := own_ne_box ho1 hb1 (by decide) b rfl
  have ho2 := own_set_far ho1 (p := ⟨g, 0, none⟩) (own_ne_box ho1 hb1 (by decide)) (.slice (some ⟨b, 0, none⟩) xs.length cp')
  have ho3 := own_more (base' := base) (ho2.stored k (.int .u64 c)).1 (fun j hj => by have := ((ho2.stored k (.int .u64 c)).1.lt j hj).1; omega)
  have hb2 := hb1.set_ 0 (.slice (some ⟨b, 0, none⟩) xs.length cp')
  refine ⟨b, cp', rfl, hbg, hcp, hb1.cell 0, hb1.frozen 0, hcell, hfz, .slice (some ⟨b, 0, none⟩) xs.length cp', ⟨?_, hgb, ?_⟩, ?_⟩
  · have := hb2.far (p := ⟨b, k, none⟩) hbg.symm (.int .u64 c)
    simpa using this
  · simpa using ho3
  · exact ((Fr.of_below (S := fun k => k = g) e0).setCell (p := ⟨g, 0, none⟩) (.inl rfl) _).setCell (p := ⟨b, k, none⟩) (.inr hbb) _

theorem rset_yes {w : World} {base g : Nat} {v : Value} {xs : List Int} {room c : Int} {k : Nat} (h : Rf w base g v xs room) (hk : k < xs.length) (hm : xs.length ≤ 65536) (hw : (Lit.int .u64 c).wf = true) (hc : cellOk c = true) (hB : base ≤ w.heap.size) :
    Calls Try.prog 15 #[.pointer (some ⟨g, 0, none⟩), .int .i64 k, .int .u64 c] w fun e w' => e = .returned (.bool true) ∧ RWasSet base g xs k room c w w' := by
  have HW := Lib.hid hw
  have HC := Lib.hid hc
  have HT := Lib.hid h
  obtain ⟨hb, hgb, ho⟩ := h
  obtain ⟨A, cp, rfl, _⟩ := own_form ho
  have h0 : w.cell? ⟨g, 0, none⟩ = some (.slice A xs.length cp) := hb.cell 0
  have hlt := hb.lt
  obtain ⟨i0, hi, hz0, hz1, hz2⟩ := info_parts info23
  clear hw hc hb
  have h2 : ∀ o, (w.alloc o).cell? ⟨g, 0, none⟩ = some (.slice A xs.length cp) := fun o => (HT.out.1.alloc o).cell 0
  go_enter Try.func15, Try.ntmps15
  go_wp2_with (first
    | (go_at_call 24; refine (refRight_is _ HW.out HC.out _).mono ?_; rintro e w' ⟨rfl, rfl⟩)
    | (at_builtin; refine wpList_append_both _ rfl (.tmp 24) (.tmp 28) 32 rfl w.heap.size 23 i0 (.int .u64 0) 1 8 Try.underlying32 hi hz0 hz1 hz2 rfl (by decide) _ _ _ rfl (World.ownsRow_made w #[] 0 (Nat.le_refl _) (by decide) rfl) base _ xs.length (xs.map (Value.int .u64)) rfl (ho.alloc _) (words_one xs) ?c1 ?c2 ?c3 ?_))
  case c1 => unfold maxLen; omega
  case c2 => omega
  case c3 => simp
  intro v1 w1 hown1 hgrow1
  have e0 : Below w.heap.size w w1 := ((Below.refl _ w).alloc (Nat.le_refl _) _).grown hgrow1 (by simp) (by simp [Value.ownBlock])
  obtain ⟨b, cp', hv1, k1, k2, k3, k4, k5, k6, k7⟩ := rset_after (c := c) HT.out hB hk e0 (by simpa using hown1)
  rw [hv1] at k7 ⊢
  clear h0 h2 ho hgrow1 hown1 hv1 e0
  go_wp2
  go_ret
  exact ⟨rfl, k7.out⟩

/-- Two rows of the same words. -/
theorem same_yes {w : World} {b1 b2 : Nat} {v1 v2 : Value} {xs : List Int} (h1 : w.ownsRow b1 23 1 v1 xs.length (xs.map (Value.int .u64))) (h2 : w.ownsRow b2 23 1 v2 xs.length (xs.map (Value.int .u64))) (hm : xs.length ≤ 65536) :
    Calls Try.prog 22 #[v1, v2] w fun e w' => e = .returned (.bool true) ∧ ∃ n, w' = w.drewN n := by
  obtain ⟨A, c, rfl, hc1⟩ := own_form h1
  obtain ⟨B, d, rfl, hc2⟩ := own_form h2
  have H1 := Lib.hid h1
  have H2 := Lib.hid h2
  clear h1 h2
  go_enter Try.func22, Try.ntmps22
  go_wp2
  go_loopw [5] (fun i wr => ∃ k n : Nat, k ≤ xs.length ∧ i = .int .i64 k ∧ wr = w.drewN n) (fun i _ => xs.length - (intOf i).toNat)
  case atStart => exact ⟨0, 0, Nat.zero_le _, rfl, rfl⟩
  case round =>
    obtain ⟨k, n, hk, rfl, rfl⟩ := hrel
    by_cases hlt : k < xs.length
    · obtain ⟨a, rfl, _, q1, _⟩ := own_cell H1.out hlt
      obtain ⟨b, rfl, _, q2, _⟩ := own_cell H2.out hlt
      have l0 : (0 : Int) ≤ (k : Int) := by omega
      have l1 : (k : Int) < (xs.length : Int) := by omega
      go_wp2_with fail
      go_quiet (fail)
      go_wp2
      go_roundw
      case rel => exact ⟨k + 1, _, by omega, by go_num, rfl⟩
      case measure => simp [intOf]; omega
    · go_wp2
      go_ret
      exact ⟨rfl, _, rfl⟩

end Go.Proofs.Ytakbahnmlkphcaa
