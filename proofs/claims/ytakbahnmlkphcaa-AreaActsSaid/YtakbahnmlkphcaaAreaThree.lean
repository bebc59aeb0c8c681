/-
  Copies of an Area's cells, and the calls of Raw, each by a contract. Conditions: the row is the call's own, no longer than 65536 cells; of Raw: the place is there, there is room.
-/
import Derived.Test.YtakbahnmlkphcaaAreaTwo
import Derived.WalkSpells
import Derived.Deep.RegionLaw
import Derived.BigRegion
namespace Go.Proofs.Ytakbahnmlkphcaa
open Go Go.RowKit
set_option linter.unusedVariables false

/-- An append onto an owned row, as one step of a region that draws its order. -/
theorem step_own {P : Program} (w : World) {ops : Array Oper} {o : Oper} {a : Act} {K : Act → World → Prop} {Q : Exit → Act → World → Prop} {E : Prop} (hgd : o.guard = none) (s x : Operand) (t : TypeId)
    (ho : o.op = .call { callee := .builtin .append, args := #[s, x], argTypes := #[t, t] })
    (base : Nat) (e : TypeId) (i : TypeInfo) (z : Value) (size bytes : Nat) (ht : P.underlying t = some (.slice e)) (hi : P.info? e = some i) (hz : i.zero = some z)
    (hsize : i.size = size) (hby : i.bytes = bytes) (hzs : z.cells.size = size) (hsz : 0 < size)
    (v : Value) (n : Nat) (xs : List Value) (hs : a.eval s = v) (hown : w.ownsRow base e size v n xs)
    (ad : Addr) (m c : Nat) (news : List Value) (hx : a.eval x = .slice (some ad) m c) (hl : news.length = m * size) (hnews : ∀ j u, news[j]? = some u → w.cell? (ad.add j) = some u) (h1 : ∀ u ∈ news, u.oneCell' = true)
    (h63 : n + m ≤ maxLen) (hbytes : (n + m) * bytes ≤ 140737488355328) (hbase : base ≤ w.heap.size)
    (h : ∀ v' w', w'.ownsRow base e size v' (n + m) (xs ++ news) → w.grownBy w' v.ownBlock → (v' = .slice none 0 0 ↔ v = .slice none 0 0 ∧ m = 0) → K (a.put o.dst v') w') :
    if Region.wanted o (yielded ops a.tmps) = true then Oper.wp P o a w K Q else E := by
  have hw : Region.wanted o (yielded ops a.tmps) = true := by simp [Region.wanted, hgd]
  rw [if_pos hw]
  exact wp_append_own w s x t ho base e i z size bytes ht hi hz hsize hby hzs hsz v n xs hs hown ad m c news hx hl hnews h1 h63 hbytes hbase h

/-- A copy of an owned row: new memory. -/
def Copied (e : TypeId) (xs : List Value) (w : World) (en : Ending) (w' : World) : Prop :=
  ∃ v', en = .returned v' ∧ w'.ownsRow w.heap.size e 1 v' xs.length xs ∧ Below w.heap.size w w'

theorem clone_any {w : World} {base : Nat} {v : Value} {xs : List Int} (h : w.ownsRow base 37 1 v xs.length (xs.map (Value.int .u64))) (hm : xs.length ≤ 65536) :
    Calls Try.prog 26 #[v] w fun e w' => Copied 37 (xs.map (Value.int .u64)) w e w' := by
  obtain ⟨i0, hi, hz0, hz1, hz2⟩ := info_parts info37
  have hnil := fun (W : World) (A : Option Addr) (n c : Nat) => Lib.run_eql_slice_nil (P := Try.prog) W 50 37 A n c 0 0 Try.underlying50
  obtain ⟨A, c, rfl, _⟩ := own_form h
  rcases A with _ | ad
  · have hx : xs = [] := by
      rcases h.2 with ⟨_, h1⟩ | ⟨b, cap, cur, he, _⟩
      · exact List.eq_nil_of_length_eq_zero h1
      · simp at he
    subst hx
    clear hi hz0 hz1 hz2
    have hH : Hid (Copied 37 ([].map (Value.int .u64)) w (.returned (.slice none 0 0)) w) := ⟨_, rfl, World.ownsRow_nil _ _ _ _, Below.refl _ _⟩
    clear h
    go_enter Try.func26, Try.ntmps26
    go_wp2
    go_ret
    exact hH.out
  · obtain ⟨b, hb⟩ : ∃ b, ad = ⟨b, 0, none⟩ := by
      rcases h.2 with ⟨h0, _⟩ | ⟨b, cap, cur, he, _⟩
      · simp at h0
      · simp only [Value.slice.injEq, true_and, Option.some.injEq] at he
        exact ⟨b, he.1⟩
    subst hb
    have hlt := (h.lt b rfl).2
    go_enter Try.func26, Try.ntmps26
    go_wp2_with (at_builtin; refine wpList_append_own _ rfl _ _ 50 rfl w.heap.size 37 i0 (.int .u64 0) 1 8 Try.underlying50 hi hz0 hz1 hz2 rfl (by decide) _ _ _ rfl (World.ownsRow_made w #[] 0 (Nat.le_refl _) (by decide) rfl) ⟨b, 0, none⟩ xs.length c (xs.map (Value.int .u64)) rfl (by simp) ?c1 ?c2 ?c3 ?c4 ?c5 ?_)
    case c1 => exact (h.alloc _).cells (g := b) rfl
    case c2 => intro u hu; obtain ⟨x, _, rfl⟩ := List.mem_map.1 hu; rfl
    case c3 => unfold maxLen; omega
    case c4 => omega
    case c5 => simp
    intro v' w1 hown' hgrow _
    have hB : Below w.heap.size w w1 := ((Below.refl _ w).alloc (Nat.le_refl _) _).grown hgrow (by simp) (by simp [Value.ownBlock])
    have hH : Hid (Copied 37 (xs.map (Value.int .u64)) w (.returned v') w1) := ⟨v', rfl, by simpa using hown', hB⟩
    clear hown' hgrow hB h hi hz0 hz1 hz2
    go_wp2
    go_ret
    exact hH.out

theorem cells_nil (w : World) : Calls Try.prog 19 #[.pointer none] w fun e w' => e = .returned (.slice none 0 0) ∧ w = w' := by
  go_enter Try.func19, Try.ntmps19
  go_wp2
  go_ret
  exact ⟨rfl, rfl⟩

theorem cells_ar {w : World} {base g : Nat} {v : Value} {xs : List Int} {room : Int} (h : Ar w base g v xs room) (hm : xs.length ≤ 65536) :
    Calls Try.prog 19 #[.pointer (some ⟨g, 0, none⟩)] w fun e w' => Copied 37 (xs.map (Value.int .u64)) w e w' := by
  obtain ⟨hb, hgb, ho⟩ := h
  obtain ⟨A, c, rfl, _⟩ := own_form ho
  have h0 : w.cell? ⟨g, 0, none⟩ = some (.slice A xs.length c) := hb.cell 0
  clear hb
  go_enter Try.func19, Try.ntmps19
  go_wp2_with fail
  refine (clone_any ho hm).mono ?_
  intro e w1 hc
  obtain ⟨v', rfl, hc⟩ := hc
  have hH : Hid (Copied 37 (xs.map (Value.int .u64)) w (.returned v') w1) := ⟨v', rfl, hc⟩
  clear hc h0 ho
  go_wp2
  go_ret
  exact hH.out

theorem at_raw {w : World} {base g : Nat} {v : Value} {xs : List Int} {room : Int} {k : Nat} (h : Ar w base g v xs room) (hk : k < xs.length) (hm : xs.length ≤ 65536) :
    Calls Try.prog 13 #[.agg #[.pointer (some ⟨g, 0, none⟩)], .int .i64 k] w fun e w' =>
      e = .returned (.int .u64 (xs.getD k 0)) ∧ w.alloc (.cells #[.pointer (some ⟨g, 0, none⟩)] 30) = w' := by
  obtain ⟨hb, _, ho⟩ := h
  obtain ⟨A, c, rfl, _⟩ := own_form ho
  have hlt := hb.lt
  have hlt2 := (ho.lt)
  have h0 : w.cell? ⟨g, 0, none⟩ = some (.slice A xs.length c) := hb.cell 0
  obtain ⟨b, rfl, _, hcell, _⟩ := own_cell ho hk
  have hlt3 := (ho.lt b rfl).2
  clear hb ho hlt2
  go_enter Try.func13, Try.ntmps13
  go_wp2
  go_ret
  exact ⟨by simp [hk], rfl⟩

theorem put_raw {w : World} {base g : Nat} {v : Value} {xs : List Int} {room c : Int} {k : Nat} (h : Ar w base g v xs room) (hk : k < xs.length) (hm : xs.length ≤ 65536) :
    Calls Try.prog 14 #[.agg #[.pointer (some ⟨g, 0, none⟩)], .int .i64 k, .int .u64 c] w fun e w' => e = .returned (.tuple #[]) ∧ WasSet base g v xs k room c w w' := by
  have HT := Lib.hid h
  obtain ⟨hb, hgb, ho⟩ := h
  obtain ⟨A, cp, rfl, _⟩ := own_form ho
  have hlt := hb.lt
  have h0 : w.cell? ⟨g, 0, none⟩ = some (.slice A xs.length cp) := hb.cell 0
  obtain ⟨b, rfl, _, hcell, hfz⟩ := own_cell ho hk
  have hlt3 := (ho.lt b rfl).2
  have hH : Hid (WasSet base g (.slice (some ⟨b, 0, none⟩) xs.length cp) xs k room c w ((w.setCell ⟨b, k, none⟩ (.int .u64 c)).alloc (.cells #[.pointer (some ⟨g, 0, none⟩)] 30))) := by
    obtain ⟨⟨h1, h2, h3⟩, h4⟩ := HT.out.stored k c
    exact ⟨⟨h1.alloc _, h2, h3.alloc _⟩, h4.alloc _⟩
  clear hb ho
  go_enter Try.func14, Try.ntmps14
  go_wp2
  go_end0
  exact ⟨rfl, hH.out⟩

/-- Behind the append of Raw.Add: what the rest of the walk asks, and the end. -/
theorem add_after {w w1 : World} {base g : Nat} {A : Option Addr} {cp : Nat} {xs : List Int} {room c : Int} {v' : Value} {o2 : Obj} (h : Ar w base g (.slice A xs.length cp) xs room)
    (hown : w1.ownsRow base 37 1 v' (xs.length + 1) (List.map (Value.int .u64) xs ++ [.int .u64 c]))
    (hgrow : ((w.alloc (.cells #[.pointer (some ⟨g, 0, none⟩)] 30)).alloc o2).drew.grownBy w1 (Value.slice A xs.length cp).ownBlock) :
    ∃ A' cp', v' = .slice A' (xs.length + 1) cp' ∧ w1.cell? ⟨g, 0, none⟩ = some (.slice A xs.length cp) ∧ w1.frozen? ⟨g, 0, none⟩ = false ∧
      w1.cell? ⟨w.heap.size, 0, none⟩ = some (.pointer (some ⟨g, 0, none⟩)) ∧ w.heap.size ≠ g ∧
      Hid (Pushed base g (.slice A xs.length cp) xs room c w (w1.setCell ⟨g, 0, none⟩ v')) := by
  obtain ⟨hb, hgb, ho⟩ := h
  have hlt := hb.lt
  obtain ⟨o1, ho1⟩ : ∃ o1 : Obj, o1 = .cells #[.pointer (some ⟨g, 0, none⟩)] 30 := ⟨_, rfl⟩
  rw [← ho1] at hgrow
  have hbx : Box ((w.alloc o1).alloc o2).drew w.heap.size 30 #[.pointer (some ⟨g, 0, none⟩)] := by
    subst ho1
    exact (Box.new w _ _).alloc o2
  have hb0 : Box ((w.alloc o1).alloc o2).drew g 57 #[.slice A xs.length cp, .int .i64 room] := (hb.alloc o1).alloc o2
  have ho0 : ((w.alloc o1).alloc o2).drew.ownsRow base 37 1 (.slice A xs.length cp) xs.length (xs.map (Value.int .u64)) := (ho.alloc o1).alloc o2
  have hf0 : Fr (fun k => (Value.slice A xs.length cp).ownBlock = some k) ((w.alloc o1).alloc o2).drew w1 := Fr.of_grown hgrow (fun _ _ e => e)
  have hb1 : Box w1 g 57 #[.slice A xs.length cp, .int .i64 room] := hb0.fr hf0 (fun e => own_ne_box ho0 hb0 (by decide) _ e rfl)
  have hf1 : Fr (fun k => k = g ∨ (Value.slice A xs.length cp).ownBlock = some k) w w1 := (((((Fr.refl _ w).alloc o1).alloc o2).drew).trans (hf0.mono fun _ _ e => .inr e))
  obtain ⟨A', cp', hv', _⟩ := own_form hown
  refine ⟨A', cp', hv', hb1.cell 0, hb1.frozen 0, ?_, by omega, ?_⟩
  · refine (hbx.fr hf0 (fun e => ?_)).cell 0
    have := (ho.lt _ e).2
    omega
  · refine ⟨v', ⟨?_, hgb, ?_⟩, hf1.setCell (.inl (.inl rfl)) _⟩
    · simpa using hb1.set_ 0 v'
    · have := own_set_far hown (p := ⟨g, 0, none⟩) (own_ne_box hown hb1 (by decide)) v'
      simpa using this

set_option maxHeartbeats 1000000 in
theorem add_raw {w : World} {base g : Nat} {v : Value} {xs : List Int} {room c : Int} (h : Ar w base g v xs room) (hl : xs.length < room) (hr : room ≤ 65536) (hB : base ≤ w.heap.size) :
    Calls Try.prog 8 #[.agg #[.pointer (some ⟨g, 0, none⟩)], .int .u64 c] w fun e w' => e = .returned (.int .i64 xs.length) ∧ Pushed base g v xs room c w w' := by
  have HT := Lib.hid h
  obtain ⟨hb, hgb, ho⟩ := h
  obtain ⟨A, cp, rfl, _⟩ := own_form ho
  have h0 : w.cell? ⟨g, 0, none⟩ = some (.slice A xs.length cp) := hb.cell 0
  have hlt := hb.lt
  obtain ⟨i0, hi, hz0, hz1, hz2⟩ := info_parts info37
  have hnew : ∀ j u, [Value.int .u64 c][j]? = some u → (((w.alloc (.cells #[.pointer (some ⟨g, 0, none⟩)] 30)).alloc (.cells #[.int .u64 c] 37)).drew).cell? ((⟨w.heap.size + 1, 0, none⟩ : Addr).add j) = some u := by
    have := cell_one_new (w.alloc (.cells #[.pointer (some ⟨g, 0, none⟩)] 30)) (.int .u64 c) 37
    simpa using this
  have HN := Lib.hid hnew
  clear hnew
  go_enter Try.func8, Try.ntmps8
  go_wp2_with fail
  go_region_law (refine step_own _ rfl _ _ 50 rfl base 37 i0 (.int .u64 0) 1 8 Try.underlying50 hi hz0 hz1 hz2 rfl (by decide) _ _ _ rfl ((ho.alloc _).alloc _) ⟨w.heap.size + 1, 0, none⟩ 1 1 [.int .u64 c] rfl rfl HN.out (one_word _ _) (by unfold maxLen; omega) (by omega) (by simp; omega) ?_; intro v' w1 hown' hgrow hz; obtain ⟨A', cp', hv', k1, k2, k3, k4, k5⟩ := add_after HT.out hown' hgrow; rw [hv'] at k5 ⊢; clear hown' hgrow hv' hz)
  all_goals
    go_wp2
    go_ret
    exact ⟨by simp, k5.out⟩

end Go.Proofs.Ytakbahnmlkphcaa
