/-
  Proved: 'Rows.CrcSumsUptoSaid': for all parts that are together of bulk at most 1048576 the statement CrcSums of the landed package crc returns true, and the parts read as before. Condition: that bound (the row's own).
-/
import Derived.Test.YtgkldglknkeedaaTurnsRow
import Derived.Test.YtgkldglknkeedaaSums
import Derived.JoinedCond
namespace Go.Proofs.Ytgkldglknkeedaa
open Go.ChangeShapes Go.WideShapes Go.ChangeAt Go.RowKit Go.Deep
set_option linter.unusedVariables false

theorem readRows : Try.prog.readableRec 22 = true := by kernel_rfl
theorem rowRows : 22 < Try.prog.types.size := of_decide_eq_true (by kernel_rfl)
theorem cellsRow : Try.prog.cellsOf 23 = 1 := by kernel_rfl

set_option maxHeartbeats 1000000 in
theorem sums_nil (w : World) :
    Calls Try.prog 3 #[.slice none 0 0] w fun e w' => e = .returned (.bool true) ∧ Below w.heap.size w w' := by
  have hs := fun w => sum_any [] (by simp) (by simp) (.slice none 0 0) w (.inl ⟨rfl, none, 0, rfl⟩)
  have hr := fun w => rsum_any [] (by simp) (by simp) (.slice none 0 0) w (.inl ⟨rfl, none, 0, rfl⟩)
  rw [show crcOf 0 ([] : List (List Nat)).flatten = 0 from crcOf_nil 0] at hs
  rw [show crcOf 0 ([] : List Nat) = 0 from crcOf_nil 0] at hr
  have HS := Lib.hid hs
  have HR := Lib.hid hr
  clear hs hr
  go_enter Try.func3, Try.ntmps3
  go_wp2
  go_loop [3, 4, 5] (fun v s i => v = .slice none 0 0 ∧ i = .int .i64 0 ∧ s = .int .u32 0) (fun _ _ _ => 0)
  case atStart => exact ⟨rfl, rfl, rfl⟩
  case round =>
    obtain ⟨rfl, rfl, rfl⟩ := hrel
    go_wp2_with fail
    refine (ctold_any _).mono ?_
    rintro e w2 ⟨rfl, hb2⟩
    go_wp2_with fail
    refine (HS.out _).mono ?_
    rintro e w' ⟨rfl, rfl⟩
    go_wp2_with fail
    refine (HR.out _).mono ?_
    rintro e w' ⟨rfl, rfl⟩
    go_wp2_with fail
    refine (HR.out _).mono ?_
    rintro e w' ⟨rfl, rfl⟩
    go_wp2_with fail
    go_ret
    exact ⟨by simp, hb2⟩

set_option maxHeartbeats 1000000 in
theorem sums_zero (ad : Addr) (c : Nat) (w : World) :
    Calls Try.prog 3 #[.slice (some ad) 0 c] w fun e w' => e = .returned (.bool true) ∧ Below w.heap.size w w' := by
  have hs := fun w A c => sum_any [] (by simp) (by simp) (.slice A 0 c) w (.inl ⟨rfl, A, c, rfl⟩)
  have hr := fun w => rsum_any [] (by simp) (by simp) (.slice none 0 0) w (.inl ⟨rfl, none, 0, rfl⟩)
  rw [show crcOf 0 ([] : List (List Nat)).flatten = 0 from crcOf_nil 0] at hs
  rw [show crcOf 0 ([] : List Nat) = 0 from crcOf_nil 0] at hr
  have HS := Lib.hid hs
  have HR := Lib.hid hr
  clear hs hr
  go_enter Try.func3, Try.ntmps3
  go_wp2
  go_loop [3, 4, 5] (fun v s i => v = .slice none 0 0 ∧ i = .int .i64 0 ∧ s = .int .u32 0) (fun _ _ _ => 0)
  case atStart => exact ⟨rfl, rfl, rfl⟩
  case round =>
    obtain ⟨rfl, rfl, rfl⟩ := hrel
    go_wp2_with fail
    refine (ctold_any _).mono ?_
    rintro e w2 ⟨rfl, hb2⟩
    go_wp2_with fail
    refine (HS.out _ _ _).mono ?_
    rintro e w' ⟨rfl, rfl⟩
    go_wp2_with fail
    refine (HR.out _).mono ?_
    rintro e w' ⟨rfl, rfl⟩
    go_wp2_with fail
    refine (HR.out _).mono ?_
    rintro e w' ⟨rfl, rfl⟩
    go_wp2_with fail
    go_ret
    exact ⟨by simp, hb2⟩

theorem one_le {H : Type} (d : DataW H) : 1 ≤ Rows.uptoBulk d := by
  cases d with
  | lit l => cases l <;> simp [Rows.uptoBulk]
  | nil => simp [Rows.uptoBulk]
  | ptr d => simp [Rows.uptoBulk]
  | slice elems spare => simp [Rows.uptoBulk]
  | agg parts => simp [Rows.uptoBulk]
  | iface t d => simp [Rows.uptoBulk]
  | map entries => simp [Rows.uptoBulk]
  | held h => simp [Rows.uptoBulk]
theorem length_le {H : Type} (l : List (DataW H)) : l.length ≤ Rows.uptoBulkAll l := by
  induction l with
  | nil => simp [Rows.uptoBulkAll]
  | cons x r ih => have := one_le x; simp only [Rows.uptoBulkAll, List.length_cons]; omega

/-- Lists, each no longer than its datum's bulk, are together no longer than all data's. -/
theorem flat_bulk {H : Type} : ∀ (ls : List (List Nat)) (ds : List (DataW H)), ls.length = ds.length → (∀ k, k < ls.length → (ls.getD k []).length ≤ Rows.uptoBulk (ds.getD k .nil)) → ls.flatten.length ≤ Rows.uptoBulkAll ds := by
  intro ls
  induction ls with
  | nil => intro ds _ _; simp
  | cons l r ih =>
    intro ds hl hk
    cases ds with
    | nil => simp at hl
    | cons d ds =>
      have h0 := hk 0 (by simp)
      have h1 := ih ds (by simpa using hl) (fun k hk' => by simpa using hk (k + 1) (by simpa using hk'))
      simp only [List.getD_cons_zero] at h0
      simp only [List.flatten_cons, List.length_append, Rows.uptoBulkAll]
      omega

/-- What the reading of one part gives. -/
theorem part_in {H : Type} {enc : TypeId × Value → H} {W : World} {fuel base : Nat} {spare : Nat → Bool} {held : Bool} {cs : List Value} {x : DataW H × List MemPlace}
    (h : DataW.trod enc Try.prog W base spare held fuel 23 cs = some x) : ∃ v, cs = [v] ∧ ∃ l : List Nat, (∀ c ∈ l, c < 256) ∧ BysAt W v l ∧ l.length ≤ Rows.uptoBulk x.1 := by
  have hform : ∃ oa len cap, cs = [.slice oa len cap] := by
    rcases open_ints Try.underlying23 Try.underlying5 cellsByte h with ⟨hcs, _⟩ | ⟨a, len', cap', zs, hcs, _⟩
    · exact ⟨_, _, _, hcs⟩
    · exact ⟨_, _, _, hcs⟩
  obtain ⟨oa, len, cap, rfl⟩ := hform
  obtain ⟨_, l, hlen, hl, hby, hda⟩ := bys_in h
  refine ⟨_, rfl, l, hl, hby, ?_⟩
  by_cases h0 : 0 < len
  · obtain ⟨el, sp, hd, hle⟩ := hda h0
    rw [hd]
    have h1 := length_le el
    have h2 := length_le sp
    simp only [Rows.uptoBulk]
    omega
  · omega

/-- What the reading of the parts gives. -/
theorem parts_in {H : Type} {enc : TypeId × Value → H} {W : World} {fuel : Nat} {oa : Option Addr} {len cap : Nat} {x : DataW H × List MemPlace}
    (h : DataW.trod enc Try.prog W 0 (fun _ => true) true fuel 22 [.slice oa len cap] = some x) :
    (oa = none ∧ len = 0 ∧ cap = 0) ∨ (∃ ad, oa = some ad ∧ len = 0) ∨
      ∃ (b off : Nat) (ls : List (List Nat)), oa = some ⟨b, off, none⟩ ∧ len = ls.length ∧ ls.length ≤ cap ∧ (∀ l ∈ ls, ∀ c ∈ l, c < 256) ∧ (ls.flatten.length ≤ Rows.uptoBulk x.1 ∧ ls.length ≤ Rows.uptoBulk x.1) ∧
        ∀ k, k < ls.length → ∃ u, W.cell? ⟨b, off + k, none⟩ = some u ∧ BysAt W u (ls.getD k []) := by
  rcases open_slice1 Try.underlying22 cellsRow h with ⟨hcs, hx⟩ | ⟨a, len', cap', m, n, V, D, Pl, hcs, _, hl, hm, hmm, rfl, hi⟩
  · simp only [List.cons.injEq, Value.slice.injEq, and_true] at hcs
    exact .inl hcs
  · simp only [List.cons.injEq, Value.slice.injEq, and_true] at hcs
    obtain ⟨rfl, rfl, rfl⟩ := hcs
    right
    by_cases h0 : len = 0
    · exact .inl ⟨a, rfl, h0⟩
    · right
      simp only [if_true] at hmm
      subst hmm
      have each : ∀ r, r < len → ∃ l : List Nat, (∀ c ∈ l, c < 256) ∧ BysAt W (V r) l ∧ l.length ≤ Rows.uptoBulk (D r) := fun r hr => by
        obtain ⟨v, hv, l, h1, h2, h3⟩ := part_in (hi r (by omega)).2
        obtain rfl : V r = v := by simpa using hv
        exact ⟨l, h1, h2, h3⟩
      obtain ⟨L, hL⟩ := choose_lt each
      obtain ⟨b, off, spot⟩ := a
      have hspot : spot = none := by simpa [Addr.add] using World.cell?_spot (hi 0 (by omega)).1
      subst hspot
      have hgd : ∀ k, k < len → ((List.range len).map L).getD k [] = L k := fun k hk => by
        rw [List.getD_eq_getElem?_getD, List.getElem?_map, List.getElem?_range hk]; rfl
      have hgd2 : ∀ k, k < len → ((List.range len).map D).getD k .nil = D k := fun k hk => by
        rw [List.getD_eq_getElem?_getD, List.getElem?_map, List.getElem?_range hk]; rfl
      refine ⟨b, off, (List.range len).map L, rfl, by simp, by simpa using hl, ?_, ?_, ?_⟩
      · intro l hl' c hc
        obtain ⟨r, hr, rfl⟩ := List.mem_map.1 hl'
        exact (hL r (List.mem_range.1 hr)).1 c hc
      · have h1 := flat_bulk ((List.range len).map L) ((List.range len).map D) (by simp) (fun k hk => by
          have hk' : k < len := by simpa using hk
          rw [hgd k hk', hgd2 k hk']
          exact (hL k hk').2.2)
        have h2 := length_le ((List.range len).map D)
        simp only [List.length_map, List.length_range] at h2 ⊢
        simp only [Rows.uptoBulk]
        constructor <;> omega
      · intro k hk
        have hk' : k < len := by simpa using hk
        have hc := (hi k (by omega)).1
        rw [add_plain] at hc
        exact ⟨V k, hc, by rw [hgd k hk']; exact (hL k hk').2.1⟩

theorem sums_in {H : Type} {enc : TypeId × Value → H} {W : World} {fuel : Nat} {oa : Option Addr} {len cap : Nat} {x : DataW H × List MemPlace}
    (h : DataW.trod enc Try.prog W 0 (fun _ => true) true fuel 22 [.slice oa len cap] = some x) (hk : Rows.uptoBulk x.1 ≤ 1048576) :
    Calls Try.prog 3 #[.slice oa len cap] W fun e w' => e = .returned (.bool true) ∧ Below W.heap.size W w' := by
  rcases parts_in h with ⟨rfl, rfl, rfl⟩ | ⟨ad, rfl, rfl⟩ | ⟨b, off, ls, rfl, rfl, hcap, hl, hb, hc⟩
  · exact sums_nil W
  · exact sums_zero ad cap W
  · by_cases h20 : ls.length ≤ 20
    · exact sums_few ls hl (by omega) h20 b off cap hcap W hc
    · exact sums_many ls hl (by omega) (by omega) b off cap hcap W hc

theorem sumsContract (H : Type) (enc : TypeId × Value → H) (W : World) (base : Nat) (args : Array Value) (ds gs : List (DataW H)) (before : List MemPlace)
    (hval0 : ∀ (j : Nat) t v, Try.f3.params[j]? = some t → args[j]? = some v → Value.okWide Try.prog W .any base t v)
    (hW : DataW.Whole enc Try.prog Try.f3.params.toList Rows.crcSumsSpec.vars false W args.toList ds gs before) (hk : Rows.uptoSmall H (ds ++ gs) = true) :
    Calls Try.prog 3 args W fun e W' => ∃ v, e = .returned v ∧ Rows.crcSumsSpec.post enc Try.prog Try.f3 false true false false W args v W' := by
  have hval := hval0
  have hW' := hW
  have hold : ∀ x ∈ before, x.block < W.heap.size := fun x hx => hW.lt x hx
  obtain ⟨p, q, hA0, hV, rfl, hfz, hnd⟩ := hW
  have hA : DataW.TrodAll enc Try.prog W 0 (fun _ => true) true Try.f3.params.toList args.toList ds p := hA0
  rw [Try.params3] at hA hval
  obtain ⟨v0, vs0, d0, ds0, p0, q0, hargs, rfl, rfl, h0, r0⟩ := trodAll_cons hA
  obtain ⟨rfl, rfl, rfl⟩ := trodAll_nil r0
  obtain rfl : args = #[v0] := by cases args; simp_all
  obtain ⟨rfl, rfl⟩ := trodVars_none hV
  obtain ⟨oa, len, cap, rfl⟩ := okWide_slice Try.underlying22 (hval 0 22 v0 rfl rfl)
  clear hA0 hval0
  obtain ⟨fuel, hf⟩ := id h0
  have hbk : Rows.uptoBulk d0 ≤ 1048576 := by
    have h : Rows.uptoBulkAll [d0] ≤ 1048576 := of_decide_eq_true hk
    simp only [Rows.uptoBulkAll] at h
    omega
  have hin : ∀ x ∈ p0, x ∈ (p0 ++ []) ++ [] := fun x hx => by simpa using hx
  refine (sums_in (by simpa [Value.cells] using hf) hbk).mono fun e W' ⟨he, hg⟩ => ?_
  subst he
  exact ⟨_, rfl, post_below (pa := p0 ++ []) (pv := []) hW' (fun _ _ _ => (trodAll_cons_mk (shut_bool Try.underlying4 _) trodAll_mk0))
    (fun sp hsp => (trodAll_cons_mk (WideElems.Trod_stays laidOutTry readRows rowRows h0 (fun x hx => hg.same (hold x (hin x hx))) (fun x hx => hsp x (hin x hx))) trodAll_mk0)) (fun _ _ => rfl) rfl
    hg (ok_one (by kernel_rfl) rfl (okWide_bool_mk Try.underlying4 _))⟩

set_option maxRecDepth 100000 in
theorem sumsLifted (os : Os) (started : os.Started) (H : Type) (enc : TypeId × Value → H) (F : Stop.Interp) :
    ReturnsInHanded {} Try.checked os 3 .any ((Rows.OpenSpec.upto Rows.crcSumsSpec).pre6 enc Try.prog Try.f3 Rows.crcSumsUptoRow.domain false) (((Rows.OpenSpec.upto Rows.crcSumsSpec).at F).post enc Try.prog Try.f3 false true false false) := by
  refine returnsInHanded_of_cond (C := Try.checked) (s := Rows.OpenSpec.upto Rows.crcSumsSpec) (k := Rows.uptoSmall) rfl ownTry started (by kernel_rfl) Try.func3
    (OpenSpec.witness (enc := enc) (C := Try.checked) (s := Rows.OpenSpec.upto Rows.crcSumsSpec) (k := Rows.uptoSmall) rfl false ⟨#[], #[.slice none 0 0], []⟩ 8 (by kernel_rfl) (by kernel_rfl) (by kernel_rfl)
      (x := ([.nil], [], [])) (by kernel_rfl) rfl (by kernel_rfl)) ?_
  intro W base args ds gs before hval hW _ hk _
  exact sumsContract H enc W base args ds gs before hval hW hk

/-- The statement. -/
theorem crcSums_holds : Rows.CrcSumsUptoSaid :=
  OpenClaim.holds_of_cond 3 Try.f3 rfl rfl rfl rfl rfl rfl rfl ⟨rfl, rfl, rfl, rfl, rfl⟩ rfl rfl rfl rfl rfl (by kernel_rfl) Try.func3 (by kernel_rfl)
    (of_decide_eq_true (by kernel_rfl)) (by unfold Func.isWrapper; first | (rw [if_pos (by decide +kernel)]; kernel_rfl) | (rw [if_neg (by decide +kernel)]; exact ⟨rfl, rfl⟩))
    (fun os started H enc _ F => sumsLifted os started H enc F)

end Go.Proofs.Ytgkldglknkeedaa
