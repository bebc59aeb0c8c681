/-
  The program's Make, and the statement's To and From: each by its plain words, in whatever world.
-/
import Derived.Test.YtgkldglknkeedaaDoorCodeB
import Derived.Laws.CopyOwn
namespace Go.Proofs.YtgkldglknkeedaaDoor
open Go Go.RowKit Go.WideShapes Go.ChangeShapes
set_option linter.unusedVariables false

/-- An instruction, as a value. -/
def insV (op a b c d : Int) : Value := .agg #[.int .i64 op, .int .i64 a, .int .i64 b, .int .i64 c, .int .i64 d]

/-- A slice whose cells hold these numbers. -/
def IntsAt (w : World) (v : Value) (l : List Int) : Prop :=
  (l = [] ∧ ∃ A c, v = .slice A 0 c) ∨
    ∃ b off c, v = .slice (some ⟨b, off, none⟩) l.length c ∧ ∀ k, k < l.length → w.cell? ⟨b, off + k, none⟩ = some (.int .i64 (l.getD k 0))

theorem IntsAt.below {w w' : World} {v : Value} {l : List Int} (h : IntsAt w v l) (hb : Below w.heap.size w w') : IntsAt w' v l := by
  rcases h with h | ⟨b, off, c, rfl, hc⟩
  · exact .inl h
  · exact .inr ⟨b, off, c, rfl, fun k hk => (hb.cell (p := ⟨b, off + k, none⟩) (World.block_lt_of_cell? w _ (hc k hk))).trans (hc k hk)⟩

theorem alloc_below (w : World) (o : Obj) : Below w.heap.size w (w.alloc o) := (Below.refl _ w).alloc (Nat.le_refl _) o
theorem two_below (w : World) (o p : Obj) : Below w.heap.size w ((w.alloc o).alloc p) := ((Below.refl _ w).alloc (Nat.le_refl _) o).alloc (by simp) p

theorem to_any (op a b c d : Int) (w : World) :
    Calls Tryd.prog 8 #[insV op a b c d] w fun e w' => e = .returned (insV op a b c d) ∧ Below w.heap.size w w' := by
  unfold insV
  go_enter Tryd.func8, Tryd.ntmps8
  go_wp2
  exact bodyPost_ret (v := .agg #[.int .i64 op, .int .i64 a, .int .i64 b, .int .i64 c, .int .i64 d]) (by simp [results, Tryd.results8, go_sem]) rfl ⟨rfl, two_below w _ _⟩

theorem from_any (op a b c d : Int) (w : World) :
    Calls Tryd.prog 18 #[insV op a b c d] w fun e w' => e = .returned (insV op a b c d) ∧ Below w.heap.size w w' := by
  unfold insV
  go_enter Tryd.func18, Tryd.ntmps18
  go_wp2
  exact bodyPost_ret (v := .agg #[.int .i64 op, .int .i64 a, .int .i64 b, .int .i64 c, .int .i64 d]) (by simp [results, Tryd.results18, go_sem]) rfl ⟨rfl, two_below w _ _⟩

theorem splice_four (op : Int) (l : List Int) : splice [Value.int .i64 op, .int .i64 0, .int .i64 0, .int .i64 0, .int .i64 0] 1 ((l.take 4).map (Value.int .i64)) =
    [Value.int .i64 op, .int .i64 (l.getD 0 0), .int .i64 (l.getD 1 0), .int .i64 (l.getD 2 0), .int .i64 (l.getD 3 0)] := by
  match l with
  | [] => rfl
  | [a] => rfl
  | [a, b] => rfl
  | [a, b, c] => rfl
  | a :: b :: c :: d :: r => rfl

set_option maxHeartbeats 1000000 in
theorem make_any (op : Int) (l : List Int) (v : Value) (w : World) (hv : IntsAt w v l) :
    Calls Tryd.prog 17 #[.int .i64 op, v] w fun e w' => e = .returned (insV op (l.getD 0 0) (l.getD 1 0) (l.getD 2 0) (l.getD 3 0)) ∧ Below w.heap.size w w' := by
  have hform : ∃ A n c, v = .slice A n c ∧ n = l.length ∧ (0 < n → ∃ ad, A = some ad ∧ ∀ j u, (l.map (Value.int .i64))[j]? = some u → w.cell? (ad.add j) = some u ∧ ad.block < w.heap.size) := by
    rcases hv with ⟨rfl, A, c, rfl⟩ | ⟨b, off, c, rfl, hc⟩
    · exact ⟨A, 0, c, rfl, rfl, fun h => absurd h (by omega)⟩
    · refine ⟨_, l.length, c, rfl, rfl, fun _ => ⟨_, rfl, fun j u hu => ?_⟩⟩
      rw [List.getElem?_map] at hu
      cases hq : l[j]? with
      | none => simp [hq] at hu
      | some x =>
        rw [hq] at hu
        obtain rfl : Value.int .i64 x = u := by simpa using hu
        have hj : j < l.length := (List.getElem?_eq_some_iff.1 hq).1
        have h1 := hc j hj
        rw [List.getD_eq_getElem?_getD, hq] at h1
        rw [add_plain]
        exact ⟨h1, World.block_lt_of_cell? w ⟨b, off + j, none⟩ h1⟩
  obtain ⟨A, n, c, rfl, hn, hsrc⟩ := hform
  have HN := Lib.hid hn
  have HSRC := Lib.hid hsrc
  clear hv hn hsrc
  have hcs : ∃ cs : List Value, cs.length = Nat.min n 4 ∧ (∀ (i : Nat) (u : Value), cs[i]? = some u → (l.map (Value.int .i64))[i]? = some u) ∧ (∀ u ∈ cs, u.oneCell' = true) ∧
      splice [Value.int .i64 op, .int .i64 0, .int .i64 0, .int .i64 0, .int .i64 0] 1 cs = [Value.int .i64 op, .int .i64 (l.getD 0 0), .int .i64 (l.getD 1 0), .int .i64 (l.getD 2 0), .int .i64 (l.getD 3 0)] := by
    refine ⟨(l.take 4).map (Value.int .i64), ?_, ?_, ?_, splice_four op l⟩
    · rw [List.length_map, List.length_take, HN.out, Nat.min_comm]
    · intro i u hu
      rw [List.map_take, List.getElem?_take] at hu
      split at hu
      · exact hu
      · cases hu
    · intro u hu
      obtain ⟨x, _, rfl⟩ := List.mem_map.1 hu
      rfl
  obtain ⟨cs, hlen, hz, hone, hspl⟩ := hcs
  have hle4 : cs.length ≤ 4 := by rw [hlen]; exact Nat.min_le_right _ _
  have hlen0 : 0 < cs.length → 0 < n := by rw [hlen]; intro h; exact Nat.lt_of_lt_of_le h (Nat.min_le_left _ _)
  have HZ := Lib.hid hz
  have HLEN := Lib.hid hlen
  have HONE := Lib.hid hone
  have HSPL := Lib.hid hspl
  have HLE4 := Lib.hid hle4
  have HLEN0 := Lib.hid hlen0
  clear hz hlen hone hspl hle4 hlen0
  have hblk : ((w.alloc (.cells #[.int .i64 0, .int .i64 0, .int .i64 0, .int .i64 0, .int .i64 0] 27)).alloc (.cells #[.int .i64 op, .int .i64 0, .int .i64 0, .int .i64 0, .int .i64 0] 27)).heap[w.heap.size + 1]? = some (.cells [Value.int .i64 op, .int .i64 0, .int .i64 0, .int .i64 0, .int .i64 0].toArray 27 (0, 0)) := by
    have h := heap_alloc_new (w.alloc (.cells #[.int .i64 0, .int .i64 0, .int .i64 0, .int .i64 0, .int .i64 0] 27)) (.cells #[.int .i64 op, .int .i64 0, .int .i64 0, .int .i64 0, .int .i64 0] 27)
    rw [show (w.alloc (.cells #[.int .i64 0, .int .i64 0, .int .i64 0, .int .i64 0, .int .i64 0] 27)).heap.size = w.heap.size + 1 by simp] at h
    exact h
  have HBLK := Lib.hid hblk
  have hres : Box ((w.alloc (.cells #[.int .i64 0, .int .i64 0, .int .i64 0, .int .i64 0, .int .i64 0] 27)).alloc (.cells #[.int .i64 op, .int .i64 0, .int .i64 0, .int .i64 0, .int .i64 0] 27)) w.heap.size 27 #[.int .i64 0, .int .i64 0, .int .i64 0, .int .i64 0, .int .i64 0] := (Box.new w _ _).alloc _
  have HRES := Lib.hid hres
  clear hblk hres
  unfold insV
  go_enter Tryd.func17, Tryd.ntmps17
  go_upto_region 2 with (fail)
  go_wp2_with (with_reducible refine wpList_copy_splice rfl _ _ _ _ rfl 3 Tryd.underlying31 (by kernel_rfl) _ _ 4 4 n c rfl rfl (w.heap.size + 1) 1 [Value.int .i64 op, .int .i64 0, .int .i64 0, .int .i64 0, .int .i64 0] 27 HBLK.out cs HLEN.out ?c1 ?c2 HONE.out (w.heap.size + 1) _ (Below.refl _ _) (Nat.le_refl _) ?_)
  case c1 =>
    intro h0
    obtain ⟨ad, h1, h2⟩ := HSRC.out (HLEN0.out h0)
    refine ⟨ad, h1, fun j u hu => ?_⟩
    obtain ⟨h3, h4⟩ := h2 j u (HZ.out j u hu)
    have h5 : (ad.add j).block = ad.block := by unfold Addr.add; split <;> rfl
    refine (cell_alloc_lt _ _ ?_).trans ((cell_alloc_lt w _ ?_).trans h3)
    · rw [h5]; simp; omega
    · rw [h5]; exact h4
  case c2 => have := HLE4.out; simp only [List.length_cons, List.length_nil]; omega
  rintro w1 hb1 hbel1
  have hbox : Box w1 (w.heap.size + 1) 27 #[.int .i64 op, .int .i64 (l.getD 0 0), .int .i64 (l.getD 1 0), .int .i64 (l.getD 2 0), .int .i64 (l.getD 3 0)] := by
    have h := hb1.out
    rw [HSPL.out] at h
    exact h
  have hres1 : Box w1 w.heap.size 27 #[.int .i64 0, .int .i64 0, .int .i64 0, .int .i64 0, .int .i64 0] := HRES.out.below hbel1 (by omega)
  have HBEL : Hid (Below w.heap.size w w1) := Lib.hid ((two_below w _ _).trans (hbel1.mono (by omega)))
  obtain ⟨a0, ha0⟩ : ∃ x, l.getD 0 0 = x := ⟨_, rfl⟩
  rw [ha0] at hbox
  have HA0 := Lib.hid ha0
  clear ha0
  obtain ⟨a1, ha1⟩ : ∃ x, l.getD 1 0 = x := ⟨_, rfl⟩
  rw [ha1] at hbox
  have HA1 := Lib.hid ha1
  clear ha1
  obtain ⟨a2, ha2⟩ : ∃ x, l.getD 2 0 = x := ⟨_, rfl⟩
  rw [ha2] at hbox
  have HA2 := Lib.hid ha2
  clear ha2
  obtain ⟨a3, ha3⟩ : ∃ x, l.getD 3 0 = x := ⟨_, rfl⟩
  rw [ha3] at hbox
  have HA3 := Lib.hid ha3
  clear ha3
  have c0 := hbox.cell 0
  have c1 := hbox.cell 1
  have c2 := hbox.cell 2
  have c3 := hbox.cell 3
  have c4 := hbox.cell 4
  have d0 := hres1.cell 0
  have d1 := hres1.cell 1
  have d2 := hres1.cell 2
  have d3 := hres1.cell 3
  have d4 := hres1.cell 4
  have f0 := hres1.frozen 0
  have f1 := hres1.frozen 1
  have f2 := hres1.frozen 2
  have f3 := hres1.frozen 3
  have f4 := hres1.frozen 4
  have HRES1 := Lib.hid hres1
  clear hb1 hbel1 hres1 hbox
  go_wp2
  have hb5 : Box (((((w1.setCell ⟨w.heap.size, 0, none⟩ (.int .i64 op)).setCell ⟨w.heap.size, 1, none⟩ (.int .i64 a0)).setCell ⟨w.heap.size, 2, none⟩ (.int .i64 a1)).setCell ⟨w.heap.size, 3, none⟩ (.int .i64 a2)).setCell ⟨w.heap.size, 4, none⟩ (.int .i64 a3)) w.heap.size 27 #[.int .i64 op, .int .i64 a0, .int .i64 a1, .int .i64 a2, .int .i64 a3] :=
    ((((HRES1.out.set_ 0 _).set_ 1 _).set_ 2 _).set_ 3 _).set_ 4 _
  refine bodyPost_ret (v := .agg #[.int .i64 op, .int .i64 a0, .int .i64 a1, .int .i64 a2, .int .i64 a3]) (results_cell_row rfl _ _ w.heap.size 27 _ (0, 0) _ rfl hb5 Tryd.underlying27 rfl (by kernel_rfl)) rfl ⟨by rw [HA0.out, HA1.out, HA2.out, HA3.out], ?_⟩
  exact ((((HBEL.out.setCell (p := ⟨w.heap.size, 0, none⟩) (Nat.le_refl _) _).setCell (p := ⟨w.heap.size, 1, none⟩) (Nat.le_refl _) _).setCell (p := ⟨w.heap.size, 2, none⟩) (Nat.le_refl _) _).setCell (p := ⟨w.heap.size, 3, none⟩) (Nat.le_refl _) _).setCell (p := ⟨w.heap.size, 4, none⟩) (Nat.le_refl _) _

end Go.Proofs.YtgkldglknkeedaaDoor
