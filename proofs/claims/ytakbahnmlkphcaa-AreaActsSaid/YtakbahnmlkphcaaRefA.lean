/-
  The document's own Area (resolventref02), each call by a contract over a row that reads as a list of words. Conditions: the row is the call's own, no longer than 65536 words.
-/
import Derived.Test.YtakbahnmlkphcaaAreaThree
namespace Go.Proofs.Ytakbahnmlkphcaa
open Go Go.RowKit
set_option linter.unusedVariables false

section
variable {P : Program} (w : World)

theorem run_append_both (base : Nat) (t ty e : TypeId) (i : TypeInfo) (z : Value) (size bytes : Nat) (ht : P.underlying t = some (.slice e)) (hi : P.info? e = some i) (hz : i.zero = some z)
    (hsize : i.size = size) (hby : i.bytes = bytes) (hzs : z.cells.size = size) (hsz : 0 < size)
    (v : Value) (n : Nat) (xs : List Value) (hown : w.ownsRow base e size v n xs)
    (base' : Nat) (u : Value) (m : Nat) (news : List Value) (hsrc : w.ownsRow base' e size u m news) (h1 : ∀ u ∈ news, u.oneCell' = true)
    (h63 : n + m ≤ maxLen) (hbytes : (n + m) * bytes ≤ 140737488355328) (hbase : base ≤ w.heap.size) :
    ∃ v' w', (Builtin.append_ #[t, t] ty #[v, u]).run P w = .ok v' w' ∧ w'.ownsRow base e size v' (n + m) (xs ++ news) ∧ w.grownBy w' v.ownBlock := by
  rcases hsrc.2 with ⟨rfl, rfl⟩ | ⟨g, cap, cur, rfl, _, _⟩
  · obtain rfl : news = [] := List.eq_nil_of_length_eq_zero (by simpa using hsrc.1)
    exact ⟨v, w, run_append_owned_none w base t ty e i size ht hi v n xs hown, by simpa using hown, World.grownBy.refl w _⟩
  · obtain ⟨v', w', hr, h2, h3, _⟩ := run_append_own (P := P) w base t ty e i z size bytes ht hi hz hsize hby hzs hsz v n xs hown ⟨g, 0, none⟩ m cap news hsrc.1 (hsrc.cells (g := g) rfl) h1 h63 hbytes hbase
    exact ⟨v', w', hr, h2, h3⟩

theorem wp_append_both {o : Oper} {a : Act} {K : Act → World → Prop} {Q : Exit → Act → World → Prop} (s x : Operand) (t : TypeId)
    (ho : o.op = .call { callee := .builtin .append, args := #[s, x], argTypes := #[t, t] })
    (base : Nat) (e : TypeId) (i : TypeInfo) (z : Value) (size bytes : Nat) (ht : P.underlying t = some (.slice e)) (hi : P.info? e = some i) (hz : i.zero = some z)
    (hsize : i.size = size) (hby : i.bytes = bytes) (hzs : z.cells.size = size) (hsz : 0 < size)
    (v : Value) (n : Nat) (xs : List Value) (hs : a.eval s = v) (hown : w.ownsRow base e size v n xs)
    (base' : Nat) (u : Value) (m : Nat) (news : List Value) (hx : a.eval x = u) (hsrc : w.ownsRow base' e size u m news) (h1 : ∀ u ∈ news, u.oneCell' = true)
    (h63 : n + m ≤ maxLen) (hbytes : (n + m) * bytes ≤ 140737488355328) (hbase : base ≤ w.heap.size)
    (h : ∀ v' w', w'.ownsRow base e size v' (n + m) (xs ++ news) → w.grownBy w' v.ownBlock → K (a.put o.dst v') w') : o.wp P a w K Q := by
  obtain ⟨v', w', hr, h2, h3⟩ := run_append_both (P := P) w base t o.type e i z size bytes ht hi hz hsize hby hzs hsz v n xs hown base' u m news hsrc h1 h63 hbytes hbase
  unfold Oper.wp execOp
  simp only [ho, resolve, invoke, builtin, Sem.run_bind, Sem.run_pure, Result.andThen_ok, List.map_toArray, List.map_cons, List.map_nil, hs, hx, hr]
  exact h v' w' h2 h3

theorem wpList_append_both {ops : Array Oper} {rest : List Oper} {o : Oper} {a : Act} {Q : Exit → Act → World → Prop} (hgd : o.guard = none) (s x : Operand) (t : TypeId)
    (ho : o.op = .call { callee := .builtin .append, args := #[s, x], argTypes := #[t, t] })
    (base : Nat) (e : TypeId) (i : TypeInfo) (z : Value) (size bytes : Nat) (ht : P.underlying t = some (.slice e)) (hi : P.info? e = some i) (hz : i.zero = some z)
    (hsize : i.size = size) (hby : i.bytes = bytes) (hzs : z.cells.size = size) (hsz : 0 < size)
    (v : Value) (n : Nat) (xs : List Value) (hs : a.eval s = v) (hown : w.ownsRow base e size v n xs)
    (base' : Nat) (u : Value) (m : Nat) (news : List Value) (hx : a.eval x = u) (hsrc : w.ownsRow base' e size u m news) (h1 : ∀ u ∈ news, u.oneCell' = true)
    (h63 : n + m ≤ maxLen) (hbytes : (n + m) * bytes ≤ 140737488355328) (hbase : base ≤ w.heap.size)
    (h : ∀ v' w', w'.ownsRow base e size v' (n + m) (xs ++ news) → w.grownBy w' v.ownBlock → wpList P ops Q rest (a.put o.dst v') w') : wpList P ops Q (o :: rest) a w :=
  wpList_plain hgd fun _ hK => wp_append_both w s x t ho base e i z size bytes ht hi hz hsize hby hzs hsz v n xs hs hown base' u m news hx hsrc h1 h63 hbytes hbase fun v' w' h2 h3 => hK _ _ (h v' w' h2 h3)
end

/-- The document's Area in block g. -/
def Rf (w : World) (base g : Nat) (v : Value) (xs : List Int) (room : Int) : Prop :=
  Box w g 34 #[v, .int .i64 room] ∧ base ≤ g ∧ w.ownsRow base 23 1 v xs.length (xs.map (Value.int .u64))

theorem words_one (xs : List Int) : ∀ u ∈ xs.map (Value.int .u64), u.oneCell' = true := by
  intro u hu
  obtain ⟨x, _, rfl⟩ := List.mem_map.1 hu
  rfl

theorem rget_no {w : World} {base g : Nat} {v : Value} {xs : List Int} {room i : Int} (h : Rf w base g v xs room) (h0 : i < 0 ∨ xs.length ≤ i) :
    Calls Try.prog 12 #[.pointer (some ⟨g, 0, none⟩), .int .i64 i] w fun e w' => e = .returned (.tuple #[.int .u64 0, .bool false]) ∧ w = w' := by
  obtain ⟨hb, _, ho⟩ := h
  obtain ⟨A, c, rfl, _⟩ := own_form ho
  have hc0 : w.cell? ⟨g, 0, none⟩ = some (.slice A xs.length c) := hb.cell 0
  clear hb ho
  by_cases c1 : i < 0
  · clear h0
    go_enter Try.func12, Try.ntmps12
    go_wp2
    go_ret2
    exact ⟨rfl, rfl⟩
  · have c2 : (xs.length : Int) ≤ i := by omega
    clear h0
    go_enter Try.func12, Try.ntmps12
    go_wp2
    go_ret2
    exact ⟨rfl, rfl⟩

theorem rget_yes {w : World} {base g : Nat} {v : Value} {xs : List Int} {room : Int} {k : Nat} (h : Rf w base g v xs room) (hk : k < xs.length) (hm : xs.length ≤ 65536) :
    Calls Try.prog 12 #[.pointer (some ⟨g, 0, none⟩), .int .i64 k] w fun e w' => e = .returned (.tuple #[.int .u64 (xs.getD k 0), .bool true]) ∧ w = w' := by
  obtain ⟨hb, _, ho⟩ := h
  obtain ⟨A, c, rfl, _⟩ := own_form ho
  have h0 : w.cell? ⟨g, 0, none⟩ = some (.slice A xs.length c) := hb.cell 0
  obtain ⟨b, rfl, _, hcell, _⟩ := own_cell ho hk
  clear hb ho
  go_enter Try.func12, Try.ntmps12
  go_wp2
  go_ret2
  exact ⟨by simp [hk], rfl⟩

theorem rcut_no {w : World} {base g : Nat} {v : Value} {xs : List Int} {room i : Int} (h : Rf w base g v xs room) (h0 : i < 0 ∨ xs.length < i) :
    Calls Try.prog 18 #[.pointer (some ⟨g, 0, none⟩), .int .i64 i] w fun e w' => e = .returned (.bool false) ∧ w = w' := by
  obtain ⟨hb, _, ho⟩ := h
  obtain ⟨A, c, rfl, _⟩ := own_form ho
  have hc0 : w.cell? ⟨g, 0, none⟩ = some (.slice A xs.length c) := hb.cell 0
  clear hb ho
  by_cases c1 : i < 0
  · clear h0
    go_enter Try.func18, Try.ntmps18
    go_wp2
    go_ret
    exact ⟨rfl, rfl⟩
  · have c2 : (xs.length : Int) < i := by omega
    clear h0
    go_enter Try.func18, Try.ntmps18
    go_wp2
    go_ret
    exact ⟨rfl, rfl⟩

/-- Behind a Cut of the document's. -/
def RCut (base g : Nat) (v : Value) (xs : List Int) (k : Nat) (room : Int) (w w' : World) : Prop :=
  ∃ v', Rf w' base g v' (xs.take k) room ∧ Fr (fun k => k = g ∨ v.ownBlock = some k) w w'

theorem rcut_yes {w : World} {base g : Nat} {v : Value} {xs : List Int} {room : Int} {k : Nat} (h : Rf w base g v xs room) (hk : k ≤ xs.length) (hm : xs.length ≤ 65536) :
    Calls Try.prog 18 #[.pointer (some ⟨g, 0, none⟩), .int .i64 k] w fun e w' => e = .returned (.bool true) ∧ RCut base g v xs k room w w' := by
  obtain ⟨hb, hgb, ho⟩ := h
  obtain ⟨A, c, rfl, hcap⟩ := own_form ho
  have hc0 : w.cell? ⟨g, 0, none⟩ = some (.slice A xs.length c) := hb.cell 0
  have hc1 : w.frozen? ⟨g, 0, none⟩ = false := hb.frozen 0
  have hkc : k ≤ c := by omega
  have hH : Hid (RCut base g (.slice A xs.length c) xs k room w (w.setCell ⟨g, 0, none⟩ (.slice A k c))) := by
    have h1 := own_cut ho hk rfl
    have h2 : ((xs.map (Value.int .u64)).take k) = (xs.take k).map (Value.int .u64) := by rw [List.map_take]
    have h3 : (xs.take k).length = k := by simp; omega
    refine ⟨.slice A k c, ⟨by simpa using hb.set_ 0 (.slice A k c), hgb, ?_⟩, (Fr.refl _ w).setCell (.inl (.inl rfl)) _⟩
    rw [h3, ← h2]
    exact own_set_far h1 (p := ⟨g, 0, none⟩) (own_ne_box h1 hb (by decide)) _
  clear hb ho
  go_enter Try.func18, Try.ntmps18
  go_wp2
  go_ret
  exact ⟨rfl, hH.out⟩

theorem rpush_no {w : World} {base g : Nat} {v : Value} {xs : List Int} {room c : Int} (h : Rf w base g v xs room) (hl : xs.length ≤ room) (hr : room ≤ 65536) (hw : (Lit.int .u64 c).wf = true)
    (hn : room = xs.length ∨ cellOk c = false) :
    Calls Try.prog 9 #[.pointer (some ⟨g, 0, none⟩), .int .u64 c] w fun e w' => e = .returned (.bool false) ∧ ∃ n, w' = w.drewN n := by
  have HW := Lib.hid hw
  obtain ⟨hb, hgb, ho⟩ := h
  obtain ⟨A, cp, rfl, _⟩ := own_form ho
  have h0 : w.cell? ⟨g, 0, none⟩ = some (.slice A xs.length cp) := hb.cell 0
  have h1 : w.cell? ⟨g, 1, none⟩ = some (.int .i64 room) := hb.cell 1
  by_cases c1 : room = xs.length
  · have c2 : decide (room ≤ (xs.length : Int)) = true := by simp; omega
    clear hn hw c1 hb ho
    go_enter Try.func9, Try.ntmps9
    go_wp2_with fail
    go_quiet (fail)
    go_wp2
    go_ret
    exact ⟨rfl, _, rfl⟩
  · have c2 : decide (room ≤ (xs.length : Int)) = false := by simp; omega
    have HC := Lib.hid (hn.resolve_left c1)
    clear hn hw c1 hb ho
    go_enter Try.func9, Try.ntmps9
    go_wp2_with fail
    go_quiet ((go_at_call 24; exact Calls.quiet_of_same ((refRight_is _ HW.out HC.out _).mono fun _ _ h => ⟨h.1, h.2.symm⟩)))
    go_wp2
    go_ret
    exact ⟨rfl, _, rfl⟩

end Go.Proofs.Ytakbahnmlkphcaa
