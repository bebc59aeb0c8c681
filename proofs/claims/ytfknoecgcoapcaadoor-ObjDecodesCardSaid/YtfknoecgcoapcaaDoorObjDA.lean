/-
  What Decode's code loop and its end keep (Dx beside a box under way). No condition.
-/
import Derived.Test.YtfknoecgcoapcaaDoorObjTM
import Derived.BigQuiet
import Derived.Test.YtfknoecgcoapcaaDoorObjBM
import Derived.Test.YtfknoecgcoapcaaDoorObjFX
import Derived.Test.YtfknoecgcoapcaaDoorObjAC
import Derived.Test.YtfknoecgcoapcaaDoorObjQ

namespace Go.Proofs.YtfknoecgcoapcaaDoor
open Go
set_option linter.unusedVariables false
set_option linter.unusedSimpArgs false

/-- Where the document's reader is, and what was wrong first. -/
abbrev Ds := Nat × Int
def numD (l : List Nat) (k : Nat) (s : Ds) : Nat × Ds :=
  if s.2 ≠ 0 then (0, s) else if s.1 + k ≤ l.length then (valL ((l.drop s.1).take k), (s.1 + k, 0)) else (0, (l.length, 3))
def nameD (l : List Nat) (s : Ds) : ByteArray × Ds :=
  if (numD l 1 s).2.2 ≠ 0 then (⟨#[]⟩, (numD l 1 s).2)
  else if (numD l 1 s).2.1 + (numD l 1 s).1 ≤ l.length then (strOf ((l.drop (numD l 1 s).2.1).take (numD l 1 s).1), ((numD l 1 s).2.1 + (numD l 1 s).1, 0))
  else (⟨#[]⟩, ((numD l 1 s).2.1, 3))

/-- The same place in the plain words. -/
def Rel (l : List Nat) (s : Ds) (r : Rd) : Prop := (s.2 = 0 ∧ s.1 ≤ l.length ∧ r = ⟨l.drop s.1, false⟩) ∨ (s.2 = 3 ∧ s.1 ≤ l.length ∧ r.short = true)
theorem Rel.at_ {l : List Nat} {s : Ds} {r : Rd} (h : Rel l s r) : s.1 ≤ l.length ∧ (s.2 = 0 ∨ s.2 = 3) := by
  rcases h with ⟨h1, h2, _⟩ | ⟨h1, h2, _⟩
  · exact ⟨h2, .inl h1⟩
  · exact ⟨h2, .inr h1⟩
theorem Rel.short {l : List Nat} {s : Ds} {r : Rd} (h : Rel l s r) : r.short = true ↔ s.2 ≠ 0 := by
  rcases h with ⟨h1, h2, rfl⟩ | ⟨h1, h2, h3⟩
  · simp [h1]
  · simp [h1, h3]
theorem takeR_short {r : Rd} (h : r.short = true) (n : Nat) : takeR n r = ([], ⟨r.rest, true⟩) := by unfold takeR; rw [if_pos (.inl h)]
theorem num_rel {l : List Nat} {s : Ds} {r : Rd} (k : Nat) (h : Rel l s r) : (numD l k s).1 = (numR k r).1 ∧ Rel l (numD l k s).2 (numR k r).2 := by
  unfold numD numR
  rcases h with ⟨h1, h2, rfl⟩ | ⟨h1, h2, h3⟩
  · rw [if_neg (by simp [h1])]
    unfold takeR
    by_cases hk : s.1 + k ≤ l.length
    · rw [if_pos hk, if_neg (by simp; omega)]
      exact ⟨rfl, .inl ⟨rfl, hk, by simp [List.drop_drop]⟩⟩
    · rw [if_neg hk, if_pos (.inr (by simp; omega))]
      exact ⟨rfl, .inr ⟨rfl, Nat.le_refl _, rfl⟩⟩
  · rw [if_pos (by rw [h1]; decide), takeR_short h3]
    exact ⟨rfl, .inr ⟨h1, h2, rfl⟩⟩
theorem name_rel {l : List Nat} {s : Ds} {r : Rd} (h : Rel l s r) : (nameD l s).1 = (nameR r).1 ∧ Rel l (nameD l s).2 (nameR r).2 := by
  obtain ⟨h1, h2⟩ := num_rel 1 h
  unfold nameD nameR
  generalize numD l 1 s = x at h1 h2
  generalize numR 1 r = y at h1 h2
  obtain ⟨n, t⟩ := x
  obtain ⟨m, q⟩ := y
  simp only at h1 h2 ⊢
  subst h1
  rcases h2 with ⟨a1, a2, rfl⟩ | ⟨a1, a2, a3⟩
  · rw [if_neg (by simp [a1])]
    unfold takeR
    by_cases hk : t.1 + n ≤ l.length
    · rw [if_pos hk, if_neg (by simp; omega)]
      exact ⟨rfl, .inl ⟨rfl, hk, by simp [List.drop_drop]⟩⟩
    · rw [if_neg hk, if_pos (.inr (by simp; omega))]
      exact ⟨rfl, .inr ⟨rfl, a2, rfl⟩⟩
  · rw [if_pos (by rw [a1]; decide), takeR_short a3]
    exact ⟨rfl, .inr ⟨a1, a2, rfl⟩⟩
theorem valL_snoc8 (l : List Nat) (c : Nat) : valL (l ++ [c]) = 256 * valL l + c := by
  unfold valL
  rw [List.foldl_append]
  simp [Nat.mul_comm]
theorem valL_lt8 : ∀ l : List Nat, (∀ c ∈ l, c < 256) → valL l < 256 ^ l.length
  | [], _ => by simp [valL]
  | c :: l, h => by
    have ih := valL_lt8 l (fun x hx => h x (by simp [hx]))
    have hc := h c (by simp)
    rw [valL_cons, List.length_cons, Nat.pow_succ, Nat.mul_comm (256 ^ l.length)]
    have : c * 256 ^ l.length + 256 ^ l.length ≤ 256 * 256 ^ l.length := by
      rw [← Nat.succ_mul]
      exact Nat.mul_le_mul_right _ hc
    omega
theorem take_drop_snoc (l : List Nat) (a k : Nat) (h : a + k < l.length) : (l.drop a).take (k + 1) = (l.drop a).take k ++ [l.getD (a + k) 0] := by
  rw [List.take_succ_eq_append_getElem (by simp; omega), List.getD_eq_getElem?_getD, List.getElem?_eq_getElem h]
  simp
theorem num_step (l : List Nat) (hl : ∀ c ∈ l, c < 256) (a k : Nat) (h : a + k < l.length) (hk : k < 4) :
    256 * ((valL ((l.drop a).take k) : Nat) : Int) + ((l.getD (a + k) 0 : Nat) : Int) = ((valL ((l.drop a).take (k + 1)) : Nat) : Int) ∧ valL ((l.drop a).take k) < 16777216 ∧ l.getD (a + k) 0 < 256 := by
  have hc : l.getD (a + k) 0 < 256 := by
    rw [List.getD_eq_getElem?_getD, List.getElem?_eq_getElem h]
    exact hl _ (List.getElem_mem h)
  have hv := valL_lt8 ((l.drop a).take k) (fun c hc => hl c (List.mem_of_mem_drop (List.mem_of_mem_take hc)))
  have hlen : ((l.drop a).take k).length = k := by simp; omega
  rw [hlen] at hv
  have hp : 256 ^ k ≤ 256 ^ 3 := Nat.pow_le_pow_right (by decide) (by omega)
  refine ⟨?_, by omega, hc⟩
  rw [take_drop_snoc l a k h, valL_snoc8]
  omega

end Go.Proofs.YtfknoecgcoapcaaDoor

namespace Go.Proofs.YtfknoecgcoapcaaDoor
open Go Go.RowKit Go.WideShapes Go.ChangeShapes
set_option linter.unusedVariables false
set_option linter.unusedSimpArgs false

/-- The reader in memory. -/
def RdBox (W : World) (R : Nat) (v : Value) (s : Ds) : Prop := Box W R 97 #[v, .int .i64 (s.1 : Nat), .int .i64 s.2]
theorem RdBox.drewN {W : World} {R : Nat} {v : Value} {s : Ds} (h : RdBox W R v s) (n : Nat) : RdBox (W.drewN n) R v s := Box.drewN h n
theorem fr_drewN {R : Nat} {w W : World} (h : Fr (fun k => k = R) w W) (n : Nat) : Fr (fun k => k = R) w (W.drewN n) := h.drewN n

set_option maxRecDepth 100000 in
set_option maxHeartbeats 8000000 in
theorem rdnum_any (l : List Nat) (hl : ∀ c ∈ l, c < 256) (hm : l.length ≤ 1000000) (size : Nat) (h1 : 1 ≤ size) (h4 : size ≤ 4) (R : Nat) (v : Value) (s : Ds) (hs : s.1 ≤ l.length) (w w0 : World) (hR : RdBox w R v s) (hv : BysIn w0 v l) (hb : ∀ W : World, Fr (fun k => k = R) w W → BysIn W v l) :
    Calls Tryd.prog 48 #[.pointer (some ⟨R, 0, none⟩), .int .i64 (size : Nat)] w fun e w' => e = .returned (.int .i64 ((numD l size s).1 : Nat)) ∧ RdBox w' R v (numD l size s).2 ∧ Fr (fun k => k = R) w w' := by
  obtain ⟨A, c, rfl⟩ := hv.form
  obtain ⟨at_, bad⟩ := s
  simp only at hs
  have HR := Lib.hid hR
  have c0 : w.cell? ⟨R, 0, none⟩ = some (.slice A l.length c) := Box.cell hR 0
  have c1 : w.cell? ⟨R, 1, none⟩ = some (.int .i64 (at_ : Nat)) := Box.cell hR 1
  have c2 : w.cell? ⟨R, 2, none⟩ = some (.int .i64 bad) := Box.cell hR 2
  have z1 : (0 : Int) < (size : Int) := by omega
  by_cases hbad : bad = 0
  case neg =>
    have hne : (bad != 0) = true := by simpa using hbad
    have hne2 : (bad == 0) = false := by simpa using hbad
    have HN : Hid (numD l size (at_, bad) = (0, (at_, bad))) := Lib.hid (by unfold numD; rw [if_pos hbad])
    clear hbad hv hb
    go_enter Tryd.func48, Tryd.ntmps48
    go_wp2
    go_loopw [4, 5, 6] (fun r n i wr => i = .int .i64 0 ∧ wr = w) (fun _ _ _ _ => 0)
    case atStart => exact ⟨rfl, rfl⟩
    obtain ⟨rfl, hwr⟩ := hrel
    subst hwr
    go_upto_region 5 with (fail)
    go_quiet (fail)
    go_wp2
    go_ret
    exact ⟨by rw [HN.out]; rfl, by rw [HN.out]; exact HR.out.drewN _, fr_drewN (Fr.refl _ _) _⟩
  subst hbad
  have HB := Lib.hid hb
  have HLT := Lib.hid (fun a k h hk => num_step l hl a k h hk)
  have HN1 : Hid (at_ + size ≤ l.length → numD l size (at_, 0) = (valL ((l.drop at_).take size), (at_ + size, 0))) := Lib.hid (fun h => by unfold numD; rw [if_neg (by simp), if_pos h])
  have HN2 : Hid (l.length < at_ + size → numD l size (at_, 0) = (0, (l.length, 3))) := Lib.hid (fun h => by unfold numD; rw [if_neg (by simp), if_neg (by simp; omega)])
  generalize numD l size (at_, 0) = nd at HN1 HN2
  clear c0 c1 c2 hv hb hl
  go_enter Tryd.func48, Tryd.ntmps48
  go_wp2
  go_loopw [4, 5, 6] (fun r n i wr => ∃ k : Nat, k ≤ size ∧ at_ + k ≤ l.length ∧ i = .int .i64 k ∧ n = .int .i64 ((valL ((l.drop at_).take k) : Nat) : Int) ∧ Hid (RdBox wr R (.slice A l.length c) (at_ + k, 0)) ∧ Hid (Fr (fun k => k = R) w wr)) (fun _ _ i _ => size - (intOf i).toNat)
  case atStart => exact ⟨0, by omega, by omega, rfl, by simp [valL], Lib.hid HR.out, Lib.hid (Fr.refl _ _)⟩
  obtain ⟨k, hk, hka, rfl, rfl, HRB, HFR⟩ := hrel
  by_cases hks : k < size
  case neg =>
    obtain rfl : k = size := by omega
    have HX := Lib.hid (HN1.out hka)
    go_wp2
    go_ret
    exact ⟨by rw [HX.out]; rfl, by rw [HX.out]; exact HRB.out, HFR.out⟩
  have c0 : wr.cell? ⟨R, 0, none⟩ = some (.slice A l.length c) := Box.cell HRB.out 0
  have c1 : wr.cell? ⟨R, 1, none⟩ = some (.int .i64 ((at_ + k : Nat) : Int)) := Box.cell HRB.out 1
  have c2 : wr.cell? ⟨R, 2, none⟩ = some (.int .i64 0) := Box.cell HRB.out 2
  have y1 : wr.frozen? ⟨R, 1, none⟩ = false := Box.frozen HRB.out 1
  have y2 : wr.frozen? ⟨R, 2, none⟩ = false := Box.frozen HRB.out 2
  have k1 : (k : Int) < (size : Int) := by omega
  by_cases hend : at_ + k < l.length
  case neg =>
    have hz : (((at_ + k : Nat) : Int) ≥ (l.length : Int)) := by omega
    have hzd : decide ((l.length : Int) ≤ ((at_ + k : Nat) : Int)) = true := by simp; omega
    have HX := Lib.hid (HN2.out (by omega))
    have hae : at_ + k = l.length := by omega
    have HAE := Lib.hid hae
    generalize ((at_ + k : Nat) : Int) = ak at c1 hz hzd
    clear hae hend
    go_upto_region 5 with (fail)
    go_quiet (fail)
    go_wp2
    go_ret
    exact ⟨by rw [HX.out]; rfl, by rw [HX.out]; have := (Box.drewN HRB.out nq).set_ 2 (.int .i64 3); rw [HAE.out] at this; simpa [RdBox] using this, (HFR.out.drewN nq).setCell (p := ⟨R, 2, none⟩) (.inl rfl) _⟩
  case pos =>
    obtain ⟨g1, g2, g3⟩ := HLT.out at_ k hend (by omega)
    have hin := HB.out wr HFR.out
    have hcell : ∃ b off, A = some ⟨b, off, none⟩ ∧ wr.cell? ⟨b, off + (at_ + k), none⟩ = some (.int .u8 ((l.getD (at_ + k) 0 : Nat) : Int)) := by
      rcases hin with ⟨h0, _⟩ | ⟨b, off, c', he, _, _, _, hc⟩
      · rw [h0] at hend
        simp at hend
      · injection he with e1 e2 e3
        exact ⟨b, off, e1, hc _ hend⟩
    obtain ⟨b, off, rfl, hcc⟩ := hcell
    have HG := Lib.hid g1
    have hz : ¬ (l.length : Int) ≤ ((at_ + k : Nat) : Int) := by omega
    have hzd : decide ((l.length : Int) ≤ ((at_ + k : Nat) : Int)) = false := by simp; omega
    have ha1 : ((at_ + k : Nat) : Int) < (l.length : Int) := by omega
    have ha0 : (0 : Int) ≤ ((at_ + k : Nat) : Int) := by omega
    have ham : ((at_ + k : Nat) : Int) ≤ 1000000 := by omega
    have HBS : Hid (at_ + k + 1 ≤ l.length) := Lib.hid hend
    have HRX : Hid (∀ W : World, RdBox W R (.slice (some ⟨b, off, none⟩) l.length c) (at_ + k, 0) → RdBox (W.setCell ⟨R, 1, none⟩ (.int .i64 (((at_ + k : Nat) : Int) + 1))) R (.slice (some ⟨b, off, none⟩) l.length c) (at_ + (k + 1), 0)) := Lib.hid (fun W h => by
      have := Box.set_ h 1 (.int .i64 (((at_ + k : Nat) : Int) + 1))
      simp only [List.setIfInBounds_toArray, List.set_cons_succ, List.set_cons_zero] at this
      rw [show (((at_ + k : Nat) : Int) + 1) = ((at_ + (k + 1) : Nat) : Int) by omega] at this ⊢
      exact this)
    generalize valL ((l.drop at_).take k) = nn at g2 HG
    generalize l.getD (at_ + k) 0 = cb at g3 hcc HG
    generalize hak : at_ + k = ak at c1 hcc hz hzd ha0 ha1 ham HRB HRX
    clear hin hend g1
    go_upto_region 5 with (fail)
    go_quiet (fail)
    obtain ⟨w5, hw5⟩ : ∃ w5, wr.drewN nq = w5 := ⟨_, rfl⟩
    have c0' : w5.cell? ⟨R, 0, none⟩ = some (.slice (some ⟨b, off, none⟩) l.length c) := by rw [← hw5]; exact c0
    have c1' : w5.cell? ⟨R, 1, none⟩ = some (.int .i64 (ak : Int)) := by rw [← hw5]; exact c1
    have c2' : w5.cell? ⟨R, 2, none⟩ = some (.int .i64 0) := by rw [← hw5]; exact c2
    have hcc' : w5.cell? ⟨b, off + ak, none⟩ = some (.int .u8 (cb : Int)) := by rw [← hw5]; exact hcc
    have HRB5 : Hid (RdBox w5 R (.slice (some ⟨b, off, none⟩) l.length c) (ak, 0)) := Lib.hid (by rw [← hw5]; exact HRB.out.drewN _)
    have HFR5 : Hid (Fr (fun k => k = R) w w5) := Lib.hid (by rw [← hw5]; exact HFR.out.drewN _)
    rw [hw5]
    clear hw5 c0 c1 c2 hcc y1 y2 HRB HFR
    go_upto_region 9 with (fail)
    go_quiet (fail)
    obtain ⟨w6, hw6⟩ : ∃ w6, w5.drewN nq = w6 := ⟨_, rfl⟩
    have c1 : w6.cell? ⟨R, 1, none⟩ = some (.int .i64 (ak : Int)) := by rw [← hw6]; exact c1'
    have HRB6 : Hid (RdBox w6 R (.slice (some ⟨b, off, none⟩) l.length c) (ak, 0)) := Lib.hid (by rw [← hw6]; exact HRB5.out.drewN _)
    have HFR6 : Hid (Fr (fun k => k = R) w w6) := Lib.hid (by rw [← hw6]; exact HFR5.out.drewN _)
    rw [hw6]
    have y1 : w6.frozen? ⟨R, 1, none⟩ = false := Box.frozen HRB6.out 1
    clear hw6 c0' c1' c2' hcc' HRB5 HFR5
    go_wp2
    go_roundw
    case rel => exact ⟨k + 1, by omega, HBS.out, by go_num, by rw [HG.out], Lib.hid (HRX.out _ HRB6.out), Lib.hid (HFR6.out.setCell (p := ⟨R, 1, none⟩) (.inl rfl) _)⟩
    case measure => simp [intOf]; omega

end Go.Proofs.YtfknoecgcoapcaaDoor

namespace Go.Proofs.YtfknoecgcoapcaaDoor
open Go Go.RowKit Go.WideShapes Go.ChangeShapes
set_option linter.unusedVariables false
set_option linter.unusedSimpArgs false

theorem below_drewN9 (w : World) (n : Nat) : Below w.heap.size w (w.drewN n) := ⟨rfl, rfl, rfl, Nat.le_refl _, fun _ _ => rfl⟩
theorem sub_bysIn {w : World} {b off c at_ n : Nat} {l : List Nat} (h : BysIn w (.slice (some ⟨b, off, none⟩) l.length c) l) (hl : at_ + n ≤ l.length) :
    (c = at_ → BysIn w (.slice (some ⟨b, off, none⟩) 0 0) []) ∧ (¬ c = at_ → BysIn w (.slice (some ⟨b, off + at_, none⟩) n (c - at_)) ((l.drop at_).take n)) := by
  rcases h with ⟨h0, h⟩ | ⟨b', off', c', he, h1, h2, h3, hc⟩
  · cases h
  · injection he with e1 e2 e3
    injection e1 with e1
    injection e1 with e4 e5
    subst e3 e4 e5
    have hlen : ((l.drop at_).take n).length = n := by simp; omega
    refine ⟨fun _ => .inr ⟨b, off, 0, rfl, Nat.le_refl _, by omega, h3, fun k hk => by simp at hk⟩, fun hne => .inr ⟨b, off + at_, c - at_, by rw [hlen], by rw [hlen]; omega, by omega, h3, fun k hk => ?_⟩⟩
    rw [hlen] at hk
    rw [Nat.add_assoc, hc (at_ + k) (by omega)]
    congr 3
    simp only [List.getD_eq_getElem?_getD, List.getElem?_take, List.getElem?_drop]
    rw [if_pos hk]

set_option maxRecDepth 100000 in
set_option maxHeartbeats 8000000 in
theorem rdname_any (l : List Nat) (hl : ∀ c ∈ l, c < 256) (hm : l.length ≤ 1000000) (R : Nat) (v : Value) (s : Ds) (hs : s.1 ≤ l.length) (w w0 : World) (hR : RdBox w R v s) (hv : BysIn w0 v l) (hb : ∀ W : World, Fr (fun k => k = R) w W → BysIn W v l) :
    Calls Tryd.prog 49 #[.pointer (some ⟨R, 0, none⟩)] w fun e w' => e = .returned (.string (nameD l s).1) ∧ RdBox w' R v (nameD l s).2 ∧ Fr (fun k => k = R) w w' := by
  have HNUM := Lib.hid (rdnum_any l hl hm 1 (by omega) (by omega) R v s hs w w0 hR hv hb)
  have HLT := Lib.hid hl
  have HB := Lib.hid hb
  obtain ⟨A, c, rfl⟩ := hv.form
  have HND : Hid (nameD l s = if (numD l 1 s).2.2 ≠ 0 then (⟨#[]⟩, (numD l 1 s).2) else if (numD l 1 s).2.1 + (numD l 1 s).1 ≤ l.length then (strOf ((l.drop (numD l 1 s).2.1).take (numD l 1 s).1), ((numD l 1 s).2.1 + (numD l 1 s).1, 0)) else (⟨#[]⟩, ((numD l 1 s).2.1, 3))) := Lib.hid rfl
  have HN256 : Hid ((numD l 1 s).1 < 256 ∧ (numD l 1 s).2.1 ≤ l.length ∧ ((numD l 1 s).2.2 = 0 → 1 ≤ (numD l 1 s).2.1)) := Lib.hid (by
    unfold numD
    split
    · rename_i h
      exact ⟨by show 0 < 256; omega, hs, fun h2 => absurd h2 h⟩
    · split
      · rename_i h
        refine ⟨?_, h, fun _ => by show 1 ≤ s.1 + 1; omega⟩
        have := valL_lt8 ((l.drop s.1).take 1) (fun c hc => hl c (List.mem_of_mem_drop (List.mem_of_mem_take hc)))
        have hlen : ((l.drop s.1).take 1).length = 1 := by simp; omega
        rw [hlen] at this
        exact this
      · exact ⟨by show 0 < 256; omega, Nat.le_refl _, fun h => by cases h⟩)
  generalize nameD l s = nd at HND
  generalize numD l 1 s = x at HNUM HND HN256
  obtain ⟨n, at_, bad⟩ := x
  simp only at HNUM HND HN256
  clear hR hv hb hl hs
  go_enter Tryd.func49, Tryd.ntmps49
  go_upto_region 2 with (go_at_call 48; refine HNUM.out.mono ?_; rintro e w5 ⟨rfl, hrb, hfr⟩; have HRB := Lib.hid hrb; have HFR := Lib.hid hfr; clear hrb hfr)
  have c0 : w5.cell? ⟨R, 0, none⟩ = some (.slice A l.length c) := Box.cell HRB.out 0
  have c1 : w5.cell? ⟨R, 1, none⟩ = some (.int .i64 (at_ : Nat)) := Box.cell HRB.out 1
  have c2 : w5.cell? ⟨R, 2, none⟩ = some (.int .i64 bad) := Box.cell HRB.out 2
  by_cases hbad : bad = 0
  case neg =>
    have hne : (bad != 0) = true := by simpa using hbad
    have hne2 : (bad == 0) = false := by simpa using hbad
    have HX : Hid (nd = (⟨#[]⟩, (at_, bad))) := Lib.hid (by rw [HND.out, if_pos hbad])
    clear hbad
    go_quiet (fail)
    go_wp2
    go_ret
    exact ⟨by rw [HX.out]; rfl, by rw [HX.out]; exact HRB.out.drewN _, HFR.out.drewN _⟩
  subst hbad
  have hn := HN256.out
  by_cases hend : at_ + n ≤ l.length
  case neg =>
    have HX : Hid (nd = (⟨#[]⟩, (at_, 3))) := Lib.hid (by rw [HND.out, if_neg (by simp), if_neg hend])
    have hz : (l.length : Int) < (at_ : Int) + (n : Int) := by omega
    have hzd : decide ((l.length : Int) < (at_ : Int) + (n : Int)) = true := by simp; omega
    have y2 : w5.frozen? ⟨R, 2, none⟩ = false := Box.frozen HRB.out 2
    have HRX : Hid (∀ W : World, RdBox W R (.slice A l.length c) (at_, 0) → RdBox (W.setCell ⟨R, 2, none⟩ (.int .i64 3)) R (.slice A l.length c) (at_, 3)) := Lib.hid (fun W h => by
      have := Box.set_ h 2 (.int .i64 3)
      simpa [RdBox] using this)
    go_quiet (fail)
    have e2 : ((w5.drewN nq).setCell ⟨R, 2, none⟩ (.int .i64 3)).cell? ⟨R, 2, none⟩ = some (.int .i64 3) := Box.cell (HRX.out _ (HRB.out.drewN nq)) 2
    go_wp2
    go_ret
    exact ⟨by rw [HX.out]; rfl, by rw [HX.out]; exact HRX.out _ (HRB.out.drewN _), (HFR.out.drewN nq).setCell (p := ⟨R, 2, none⟩) (.inl rfl) _⟩
  case pos =>
    have HX : Hid (nd = (strOf ((l.drop at_).take n), (at_ + n, 0))) := Lib.hid (by rw [HND.out, if_neg (by simp), if_pos hend])
    have hz : ¬ (l.length : Int) < (at_ : Int) + (n : Int) := by omega
    have hzd : decide ((l.length : Int) < (at_ : Int) + (n : Int)) = false := by simp; omega
    have hat1 := hn.2.2 rfl
    have hin := HB.out w5 HFR.out
    rcases hin with ⟨h0, _⟩ | ⟨b, off, c', he, h1, h2, h3, hc⟩
    · rw [h0] at hend
      simp at hend
      omega
    injection he with e1 e2 e3
    subst e1 e3
    have HBI : Hid (BysIn w5 (.slice (some ⟨b, off, none⟩) l.length c) l) := Lib.hid (.inr ⟨b, off, c, rfl, h1, h2, h3, hc⟩)
    have HRB1 := HRB
    have HRX : Hid (∀ W : World, RdBox W R (.slice (some ⟨b, off, none⟩) l.length c) (at_, 0) → RdBox (W.setCell ⟨R, 1, none⟩ (.int .i64 ((at_ : Int) + (n : Int)))) R (.slice (some ⟨b, off, none⟩) l.length c) (at_ + n, 0)) := Lib.hid (fun W h => by
      have := Box.set_ h 1 (.int .i64 ((at_ : Int) + (n : Int)))
      simp only [List.setIfInBounds_toArray, List.set_cons_succ, List.set_cons_zero] at this
      exact this)
    clear h3 hc
    go_quiet (fail)
    obtain ⟨w6, hw6⟩ : ∃ w6, w5.drewN nq = w6 := ⟨_, rfl⟩
    have HRB6 : Hid (RdBox w6 R (.slice (some ⟨b, off, none⟩) l.length c) (at_, 0)) := Lib.hid (by rw [← hw6]; exact HRB.out.drewN _)
    have HFR6 : Hid (Fr (fun k => k = R) w w6) := Lib.hid (by rw [← hw6]; exact HFR.out.drewN _)
    rw [hw6]
    clear hw6 c0 c1 c2 HRB HFR HRB1
    have c0 : w6.cell? ⟨R, 0, none⟩ = some (.slice (some ⟨b, off, none⟩) l.length c) := Box.cell HRB6.out 0
    have c1 : w6.cell? ⟨R, 1, none⟩ = some (.int .i64 (at_ : Nat)) := Box.cell HRB6.out 1
    have c2 : w6.cell? ⟨R, 2, none⟩ = some (.int .i64 0) := Box.cell HRB6.out 2
    have hsub := sub_bysIn (HB.out w6 HFR6.out) hend
    have k2 : (at_ : Int) + (n : Int) ≤ (c : Int) := by omega
    have k3 : (0 : Int) ≤ (at_ : Int) := by omega
    have k5 : (at_ : Int) ≤ (at_ : Int) + (n : Int) := by omega
    by_cases hca : c = at_
    · have hn0 : n = 0 := by omega
      have hcv := fun k => conv_str (w := w6.drewN k) ((hsub.1 hca).below (below_drewN9 w6 k)) (by simp)
      subst hn0
      have HRX0 : Hid (∀ W : World, RdBox W R (.slice (some ⟨b, off, none⟩) l.length c) (at_, 0) → RdBox (W.setCell ⟨R, 1, none⟩ (.int .i64 (at_ : Int))) R (.slice (some ⟨b, off, none⟩) l.length c) (at_ + 0, 0)) := Lib.hid (fun W h => by
        have := HRX.out W h
        rw [show (at_ : Int) + ((0 : Nat) : Int) = (at_ : Int) by omega] at this
        exact this)
      rw [List.take_zero] at HX
      generalize strOf [] = st at HX hcv
      clear hsub HRX k2 k5 hz hzd
      subst hca
      have y1 : w6.frozen? ⟨R, 1, none⟩ = false := Box.frozen HRB6.out 1
      go_upto_region 6 with (fail)
      go_quiet (fail)
      go_wp2
      go_ret
      exact ⟨by rw [HX.out]; rfl, by rw [HX.out]; exact HRX0.out _ (HRB6.out.drewN _), (HFR6.out.drewN nq).setCell (p := ⟨R, 1, none⟩) (.inl rfl) _⟩
    · have k4 : (c == at_) = false := by simpa using hca
      have hcv := fun k => conv_str (w := w6.drewN k) ((hsub.2 hca).below (below_drewN9 w6 k)) (fun x hx => HLT.out x (List.mem_of_mem_drop (List.mem_of_mem_take hx)))
      generalize strOf ((l.drop at_).take n) = st at HX hcv
      clear hsub
      have y1 : w6.frozen? ⟨R, 1, none⟩ = false := Box.frozen HRB6.out 1
      go_upto_region 6 with (fail)
      go_quiet (fail)
      go_wp2
      go_ret
      exact ⟨by rw [HX.out]; rfl, by rw [HX.out]; exact HRX.out _ (HRB6.out.drewN _), (HFR6.out.drewN nq).setCell (p := ⟨R, 1, none⟩) (.inl rfl) _⟩

end Go.Proofs.YtfknoecgcoapcaaDoor

namespace Go.Proofs.YtfknoecgcoapcaaDoor
open Go
set_option linter.unusedVariables false
set_option linter.unusedSimpArgs false

theorem pair_eq {α β : Type} (p : α × β) {b : β} (h : p.2 = b) : p = (p.1, b) := by subst h; rfl
def Bts (l : List Nat) : Prop := ∀ c ∈ l, c < 256
theorem Bts.right {a b : List Nat} (h : Bts (a ++ b)) : Bts b := fun c hc => h c (by simp [hc])
theorem Bts.left {a b : List Nat} (h : Bts (a ++ b)) : Bts a := fun c hc => h c (by simp [hc])

theorem takeR_inv {n : Nat} {r r' : Rd} {a : List Nat} (h : takeR n r = (a, r')) (hs : r'.short = false) : r.rest = a ++ r'.rest ∧ a.length = n ∧ r.short = false := by
  unfold takeR at h
  split at h
  · injection h with h1 h2
    subst h2
    cases hs
  · rename_i hn
    injection h with h1 h2
    subst h1 h2
    refine ⟨(List.take_append_drop n r.rest).symm, by simp; omega, ?_⟩
    cases hh : r.short
    · rfl
    · exact absurd (.inl hh) hn
theorem numL_valL : ∀ l : List Nat, Bts l → numL l.length (valL l) = l
  | [], _ => rfl
  | c :: l, h => by
    have hc := h c (by simp)
    have hb : Bts l := fun x hx => h x (by simp [hx])
    have ih := numL_valL l hb
    have hlt : valL l < 256 ^ l.length := by
      have e := valL_numL (valL l) l.length
      rw [ih] at e
      rw [e]
      exact Nat.mod_lt _ (Nat.pow_pos (by decide))
    rw [List.length_cons, numL, valL_cons]
    have h1 : (c * 256 ^ l.length + valL l) / 256 ^ l.length = c := by
      rw [Nat.mul_comm, Nat.mul_add_div (Nat.pow_pos (by decide)), Nat.div_eq_of_lt hlt, Nat.add_zero]
    rw [h1, Nat.mod_eq_of_lt hc]
    congr 1
    have H : ∀ k n m, k ≤ m → numL k (c * 256 ^ m + n) = numL k n := by
      intro k
      induction k with
      | zero => intro n m _; rfl
      | succ k ihk =>
        intro n m hk
        rw [numL, numL, ihk n m (by omega)]
        congr 1
        obtain ⟨d, rfl⟩ : ∃ d, m = k + 1 + d := ⟨m - (k + 1), by omega⟩
        rw [show c * 256 ^ (k + 1 + d) = 256 ^ k * (256 * (c * 256 ^ d)) by rw [Nat.pow_add, Nat.pow_succ]; simp only [Nat.mul_assoc, Nat.mul_left_comm, Nat.mul_comm], Nat.mul_add_div (Nat.pow_pos (by decide)), Nat.add_comm, Nat.add_mul_mod_self_left]
    rw [H _ _ _ (Nat.le_refl _)]
    exact ih
theorem numR_inv {k : Nat} {r r' : Rd} {x : Nat} (h : numR k r = (x, r')) (hs : r'.short = false) (hb : Bts r.rest) : r.rest = numL k x ++ r'.rest ∧ r.short = false := by
  unfold numR at h
  injection h with h1 h2
  obtain ⟨e1, e2, e3⟩ := takeR_inv (pair_eq _ h2) hs
  refine ⟨?_, e3⟩
  have := numL_valL (takeR k r).1 (by rw [e1] at hb; exact hb.left)
  rw [e2] at this
  rw [← h1, this]
  exact e1
theorem strL_strOf {a : List Nat} (h : Bts a) : strL (strOf a) = a ∧ (strOf a).size = a.length := by
  constructor
  · unfold strL strOf
    rw [List.toList_toArray, List.map_map]
    have : a.map (UInt8.toNat ∘ UInt8.ofNat) = a.map id := List.map_congr_left fun c hc => by
      have := h c hc
      simp [UInt8.toNat_ofNat']
      omega
    rw [this, List.map_id]
  · show ((a.map UInt8.ofNat).toArray).size = _
    simp
theorem nameR_inv {r r' : Rd} {s : ByteArray} (h : nameR r = (s, r')) (hs : r'.short = false) (hb : Bts r.rest) : r.rest = nameL s ++ r'.rest ∧ r.short = false := by
  unfold nameR at h
  injection h with h1 h2
  obtain ⟨e1, e2, e3⟩ := takeR_inv (pair_eq _ h2) hs
  obtain ⟨f1, f2⟩ := numR_inv (pair_eq (numR 1 r) rfl) e3 hb
  refine ⟨?_, f2⟩
  have hb2 : Bts (numR 1 r).2.rest := by rw [f1] at hb; exact hb.right
  have hba : Bts (takeR (numR 1 r).1 (numR 1 r).2).1 := by rw [e1] at hb2; exact hb2.left
  obtain ⟨g1, g2⟩ := strL_strOf hba
  rw [← h1]
  unfold nameL
  rw [g1, g2, e2, List.append_assoc, ← e1]
  exact f1
theorem funR_inv {r r' : Rd} {f : ByteArray × Int} (h : funR r = (f, r')) (hs : r'.short = false) (hb : Bts r.rest) : r.rest = funL f ++ r'.rest ∧ r.short = false := by
  unfold funR at h
  injection h with h1 h2
  obtain ⟨e1, e2⟩ := numR_inv (r := (nameR r).2) (pair_eq _ h2) hs (by
    cases hq : (nameR r).2.short
    · obtain ⟨x, _⟩ := nameR_inv (pair_eq (nameR r) rfl) hq hb
      rw [x] at hb
      exact hb.right
    · exfalso
      have : (numR 1 (nameR r).2).2.short = true := by unfold numR takeR; rw [if_pos (.inl hq)]
      rw [h2, hs] at this
      cases this)
  obtain ⟨f1, f2⟩ := nameR_inv (pair_eq (nameR r) rfl) e2 hb
  refine ⟨?_, f2⟩
  rw [← h1]
  unfold funL
  rw [Int.toNat_natCast, List.append_assoc, ← e1]
  exact f1
theorem numR_short {k : Nat} {r : Rd} (h : r.short = true) : (numR k r).2.short = true := by unfold numR takeR; rw [if_pos (.inl h)]
theorem short_of {k : Nat} {r : Rd} (h : (numR k r).2.short = false) : r.short = false := by
  cases hq : r.short
  · rfl
  · rw [numR_short hq] at h
    cases h
theorem predR_inv {r r' : Rd} {p : ByteArray × Int × Int} (h : predR r = (p, r')) (hs : r'.short = false) (hb : Bts r.rest) : r.rest = predL p ++ r'.rest ∧ r.short = false := by
  unfold predR at h
  injection h with h1 h2
  have s2 : (numR 1 (nameR r).2).2.short = false := short_of (by rw [h2]; exact hs)
  have s1 : (nameR r).2.short = false := short_of s2
  obtain ⟨f1, f2⟩ := nameR_inv (pair_eq (nameR r) rfl) s1 hb
  have hb1 : Bts (nameR r).2.rest := by rw [f1] at hb; exact hb.right
  obtain ⟨g1, _⟩ := numR_inv (pair_eq (numR 1 (nameR r).2) rfl) s2 hb1
  have hb2 : Bts (numR 1 (nameR r).2).2.rest := by rw [g1] at hb1; exact hb1.right
  obtain ⟨e1, _⟩ := numR_inv (pair_eq _ h2) hs hb2
  refine ⟨?_, f2⟩
  rw [← h1]
  unfold predL
  rw [Int.toNat_natCast, Int.toNat_natCast, List.append_assoc, List.append_assoc, ← e1, ← g1]
  exact f1
theorem manyR_inv {α : Type} {f : Rd → α × Rd} {g : α → List Nat} (hf : ∀ r x r', f r = (x, r') → r'.short = false → Bts r.rest → r.rest = g x ++ r'.rest ∧ r.short = false) (hsh : ∀ r, r.short = true → (f r).2.short = true) :
    ∀ (n : Nat) (r r' : Rd) (l : List α), manyR f n r = (l, r') → r'.short = false → Bts r.rest → r.rest = l.flatMap g ++ r'.rest ∧ r.short = false ∧ l.length = n
  | 0, r, r', l, h, hs, hb => by
    injection h with h1 h2
    subst h1 h2
    exact ⟨rfl, hs, rfl⟩
  | n + 1, r, r', l, h, hs, hb => by
    rw [manyR] at h
    injection h with h1 h2
    have hsm : ∀ (n : Nat) (r : Rd), r.short = true → (manyR f n r).2.short = true := by
      intro n
      induction n with
      | zero => intro r h; exact h
      | succ n ih => intro r h; exact ih _ (hsh r h)
    have s1 : (f r).2.short = false := by
      cases hq : (f r).2.short
      · rfl
      · have := hsm n _ hq
        rw [h2, hs] at this
        cases this
    obtain ⟨e1, e2⟩ := hf r _ _ rfl s1 hb
    have hb1 : Bts (f r).2.rest := by rw [e1] at hb; exact hb.right
    obtain ⟨g1, _, g3⟩ := manyR_inv hf hsh n _ r' _ (pair_eq _ h2) hs hb1
    subst h1
    refine ⟨?_, e2, by rw [List.length_cons, g3]⟩
    rw [List.flatMap_cons, List.append_assoc, ← g1]
    exact e1
theorem nameR_short {r : Rd} (h : r.short = true) : (nameR r).2.short = true := by
  unfold nameR
  have := numR_short (k := 1) h
  show (takeR (numR 1 r).1 (numR 1 r).2).2.short = true
  unfold takeR
  rw [if_pos (.inl this)]
theorem funR_short {r : Rd} (h : r.short = true) : (funR r).2.short = true := numR_short (nameR_short h)
theorem predR_short {r : Rd} (h : r.short = true) : (predR r).2.short = true := numR_short (numR_short (nameR_short h))
theorem argsR_short : ∀ (ks : List Int) (r : Rd), r.short = true → (argsR ks r).2.short = true
  | [], _, h => h
  | k :: ks, r, h => argsR_short ks _ (numR_short h)
theorem argsR_inv : ∀ (ks : List Int) (r r' : Rd) (l : List Int), argsR ks r = (l, r') → r'.short = false → Bts r.rest → r.rest = argsL ks l ++ r'.rest ∧ r.short = false ∧ l.length = ks.length
  | [], r, r', l, h, hs, hb => by
    injection h with h1 h2
    subst h1 h2
    exact ⟨rfl, hs, rfl⟩
  | k :: ks, r, r', l, h, hs, hb => by
    rw [argsR] at h
    injection h with h1 h2
    have s1 : (numR (sizeK k) r).2.short = false := by
      cases hq : (numR (sizeK k) r).2.short
      · rfl
      · have := argsR_short ks _ hq
        rw [h2, hs] at this
        cases this
    obtain ⟨e1, e2⟩ := numR_inv (pair_eq (numR (sizeK k) r) rfl) s1 hb
    have hb1 : Bts (numR (sizeK k) r).2.rest := by rw [e1] at hb; exact hb.right
    obtain ⟨g1, _, g3⟩ := argsR_inv ks _ r' _ (pair_eq _ h2) hs hb1
    subst h1
    refine ⟨?_, e2, by rw [List.length_cons, List.length_cons, g3]⟩
    rw [argsL]
    simp only [List.headD_cons, List.tail_cons]
    rw [Int.toNat_natCast, List.append_assoc, ← g1]
    exact e1
theorem argsL_congr : ∀ (ks l m : List Int), (∀ j, j < ks.length → l.getD j 0 = m.getD j 0) → argsL ks l = argsL ks m
  | [], _, _, _ => rfl
  | k :: ks, l, m, h => by
    rw [argsL, argsL]
    have h0 := h 0 (by simp)
    have hd : ∀ l : List Int, l.headD 0 = l.getD 0 0 := fun l => by cases l <;> rfl
    have ht : ∀ (l : List Int) j, l.tail.getD j 0 = l.getD (j + 1) 0 := fun l j => by cases l <;> simp
    rw [hd, hd, h0, argsL_congr ks l.tail m.tail (fun j hj => by rw [ht, ht]; exact h (j + 1) (by simp; omega))]
theorem insR_inv {r r' : Rd} {i : Ins} (h : insR r = some (i, r')) (hs : r'.short = false) (hb : Bts r.rest) : r.rest = insL i ++ r'.rest ∧ r.short = false := by
  unfold insR at h
  split at h
  · cases h
  · injection h with h
    injection h with h1 h2
    have s1 : (numR 1 r).2.short = false := by
      cases hq : (numR 1 r).2.short
      · rfl
      · have := argsR_short (opsOf (numR 1 r).1) _ hq
        rw [h2, hs] at this
        cases this
    obtain ⟨e1, e2⟩ := numR_inv (pair_eq (numR 1 r) rfl) s1 hb
    have hb1 : Bts (numR 1 r).2.rest := by rw [e1] at hb; exact hb.right
    obtain ⟨g1, _, g3⟩ := argsR_inv _ _ r' _ (pair_eq _ h2) hs hb1
    refine ⟨?_, e2⟩
    subst h1
    have hl := ops_few ((numR 1 r).1 : Int)
    have e : insL (insOf (numR 1 r).1 (argsR (opsOf (numR 1 r).1) (numR 1 r).2).1) = numL 1 (numR 1 r).1 ++ argsL (opsOf (numR 1 r).1) (argsR (opsOf (numR 1 r).1) (numR 1 r).2).1 := by
      generalize (argsR (opsOf (numR 1 r).1) (numR 1 r).2).1 = l
      show numL 1 (((numR 1 r).1 : Int)).toNat ++ argsL (opsOf (numR 1 r).1) [l.getD 0 0, l.getD 1 0, l.getD 2 0, l.getD 3 0] = _
      rw [Int.toNat_natCast]
      congr 1
      refine argsL_congr _ _ _ (fun j hj => ?_)
      match j, (show j < 4 by omega) with
      | 0, _ => rfl
      | 1, _ => rfl
      | 2, _ => rfl
      | 3, _ => rfl
    rw [e, List.append_assoc, ← g1]
    exact e1
theorem insR_short {r r' : Rd} {i : Ins} (h : insR r = some (i, r')) (hs : r.short = true) : r'.short = true := by
  unfold insR at h
  split at h
  · cases h
  · injection h with h
    injection h with h1 h2
    rw [← h2]
    exact argsR_short _ _ (numR_short hs)
theorem codeR_short : ∀ (n : Nat) (r r' : Rd) (l : List Ins), codeR n r = some (l, r') → r.short = true → r'.short = true
  | 0, r, r', l, h, hs => by
    injection h with h
    injection h with _ h2
    rw [← h2]
    exact hs
  | n + 1, r, r', l, h, hs => by
    rw [codeR] at h
    split at h
    · cases h
    · rename_i i r1 h1
      split at h
      · cases h
      · rename_i l2 r2 h2
        injection h with h
        injection h with _ h3
        rw [← h3]
        exact codeR_short n _ _ _ h2 (insR_short h1 hs)
theorem codeR_inv : ∀ (n : Nat) (r r' : Rd) (l : List Ins), codeR n r = some (l, r') → r'.short = false → Bts r.rest → r.rest = l.flatMap insL ++ r'.rest ∧ r.short = false ∧ l.length = n
  | 0, r, r', l, h, hs, hb => by
    injection h with h
    injection h with h1 h2
    subst h1 h2
    exact ⟨rfl, hs, rfl⟩
  | n + 1, r, r', l, h, hs, hb => by
    rw [codeR] at h
    split at h
    · cases h
    · rename_i i r1 h1
      split at h
      · cases h
      · rename_i l2 r2 h2
        injection h with h
        injection h with h3 h4
        subst h3 h4
        have s1 : r1.short = false := by
          cases hq : r1.short
          · rfl
          · rw [codeR_short n _ _ _ h2 hq] at hs
            cases hs
        obtain ⟨e1, e2⟩ := insR_inv h1 s1 hb
        have hb1 : Bts r1.rest := by rw [e1] at hb; exact hb.right
        obtain ⟨g1, _, g3⟩ := codeR_inv n _ _ _ h2 hs hb1
        refine ⟨?_, e2, by rw [List.length_cons, g3]⟩
        rw [List.flatMap_cons, List.append_assoc, ← g1]
        exact e1
theorem magicR_short : ∀ (ms : List Nat) (r r' : Rd), magicR ms r = some r' → r.short = true → r'.short = true
  | [], r, r', h, hs => by
    injection h with h
    rw [← h]
    exact hs
  | m :: ms, r, r', h, hs => by
    rw [magicR] at h
    split at h
    · refine magicR_short ms _ r' h ?_
      unfold takeR
      rw [if_pos (.inl hs)]
    · cases h
theorem magicR_inv : ∀ (ms : List Nat) (r r' : Rd), magicR ms r = some r' → r'.short = false → r.rest = ms ++ r'.rest ∧ r.short = false
  | [], r, r', h, hs => by
    injection h with h
    subst h
    exact ⟨rfl, hs⟩
  | m :: ms, r, r', h, hs => by
    rw [magicR] at h
    split at h
    · rename_i hm
      have s1 : (takeR 1 r).2.short = false := by
        cases hq : (takeR 1 r).2.short
        · rfl
        · rw [magicR_short ms _ _ h hq] at hs
          cases hs
      obtain ⟨g1, g2⟩ := magicR_inv ms _ r' h hs
      obtain ⟨e1, e2, e3⟩ := takeR_inv (pair_eq (takeR 1 r) rfl) s1
      rcases hm with hm | hm
      · refine ⟨?_, e3⟩
        rw [hm, g1] at e1
        exact e1
      · rw [hm] at e2
        cases e2
    · cases h

theorem object_inv {l : List Nat} (hb : Bts l) {o : Ob} {r : Rd} (h : objectR ⟨l, false⟩ = .ok (o, r)) : l = bodyL o ++ r.rest := by
  unfold objectR at h
  split at h
  · cases h
  · rename_i r0 h0
    simp only at h
    split at h
    · cases h
    · rename_i hsh
      split at h
      · cases h
      · split at h
        · cases h
        · rename_i l4 r4 h4
          split at h
          · cases h
          · rename_i hs4
            injection h with h
            injection h with h1 h2
            subst h1 h2
            have s4 : r4.short = false := by simpa using hs4
            have sp : (numR 2 (numR 2 (numR 2 (numR 2 r0).2).2).2).2.short = false := by simpa using hsh
            have sf := short_of sp
            have sa := short_of sf
            have s0 := short_of sa
            have s00 := short_of s0
            obtain ⟨e0, _⟩ := magicR_inv _ _ _ h0 s00
            simp only at e0
            have b0 : Bts r0.rest := by rw [e0] at hb; exact hb.right
            obtain ⟨e1, _⟩ := numR_inv (pair_eq (numR 2 r0) rfl) s0 b0
            have b1 : Bts (numR 2 r0).2.rest := by rw [e1] at b0; exact b0.right
            generalize numR 2 r0 = x1 at *
            obtain ⟨e2, _⟩ := numR_inv (pair_eq (numR 2 x1.2) rfl) sa b1
            have b2 : Bts (numR 2 x1.2).2.rest := by rw [e2] at b1; exact b1.right
            generalize numR 2 x1.2 = x2 at *
            obtain ⟨e3, _⟩ := numR_inv (pair_eq (numR 2 x2.2) rfl) sf b2
            have b3 : Bts (numR 2 x2.2).2.rest := by rw [e3] at b2; exact b2.right
            generalize numR 2 x2.2 = x3 at *
            obtain ⟨e4, _⟩ := numR_inv (pair_eq (numR 2 x3.2) rfl) sp b3
            have b4 : Bts (numR 2 x3.2).2.rest := by rw [e4] at b3; exact b3.right
            generalize numR 2 x3.2 = x4 at *
            have back : ∀ {α : Type} (f : Rd → α × Rd) (hf : ∀ r, r.short = true → (f r).2.short = true) (n : Nat) (r : Rd), (manyR f n r).2.short = false → r.short = false := by
              intro α f hf n r h
              cases hq : r.short
              · rfl
              · have : ∀ (n : Nat) (r : Rd), r.short = true → (manyR f n r).2.short = true := by
                  intro n
                  induction n with
                  | zero => intro r h; exact h
                  | succ n ih => intro r h; exact ih _ (hf r h)
                rw [this n r hq] at h
                cases h
            have t3 : (manyR predR x3.1 (manyR funR x2.1 (manyR nameR x1.1 x4.2).2).2).2.short = false := by
              cases hq : (manyR predR x3.1 (manyR funR x2.1 (manyR nameR x1.1 x4.2).2).2).2.short
              · rfl
              · rw [codeR_short _ _ _ _ h4 hq] at s4
                cases s4
            have t2 := back predR (fun r h => predR_short h) _ _ t3
            have t1 := back funR (fun r h => funR_short h) _ _ t2
            obtain ⟨f1, _, n1⟩ := manyR_inv (g := nameL) (fun r x r' h hs hb => nameR_inv h hs hb) (fun r h => nameR_short h) _ _ _ _ (pair_eq (manyR nameR x1.1 x4.2) rfl) t1 b4
            have c1 : Bts (manyR nameR x1.1 x4.2).2.rest := by rw [f1] at b4; exact b4.right
            generalize manyR nameR x1.1 x4.2 = y1 at *
            obtain ⟨f2, _, n2⟩ := manyR_inv (g := funL) (fun r x r' h hs hb => funR_inv h hs hb) (fun r h => funR_short h) _ _ _ _ (pair_eq (manyR funR x2.1 y1.2) rfl) t2 c1
            have c2 : Bts (manyR funR x2.1 y1.2).2.rest := by rw [f2] at c1; exact c1.right
            generalize manyR funR x2.1 y1.2 = y2 at *
            obtain ⟨f3, _, n3⟩ := manyR_inv (g := predL) (fun r x r' h hs hb => predR_inv h hs hb) (fun r h => predR_short h) _ _ _ _ (pair_eq (manyR predR x3.1 y2.2) rfl) t3 c2
            have c3 : Bts (manyR predR x3.1 y2.2).2.rest := by rw [f3] at c2; exact c2.right
            generalize manyR predR x3.1 y2.2 = y3 at *
            obtain ⟨f4, _, n4⟩ := codeR_inv _ _ _ _ h4 s4 c3
            rw [e0]
            unfold bodyL headL
            simp only
            rw [n1, n2, n3, n4]
            simp only [List.append_assoc]
            rw [← f4, ← f3, ← f2, ← f1, ← e4, ← e3, ← e2, ← e1]
theorem decode_inv {l : List Nat} (hb : Bts l) {o : Ob} (h : decodeOf l = (o, 0)) : checkOf o = 0 ∧ bytesL o = l := by
  unfold decodeOf at h
  cases hob : objectR ⟨l, false⟩ with
  | error e =>
    rw [hob] at h
    simp only at h
    injection h with _ h2
    exact absurd h2 (object_err8 hob)
  | ok p =>
    obtain ⟨o', r⟩ := p
    rw [hob] at h
    simp only at h
    split at h
    · rename_i hc
      injection h with _ h2
      exact absurd h2 hc
    · rename_i hc
      have hc0 : checkOf o' = 0 := Classical.byContradiction hc
      split at h
      · rename_i he
        injection h with _ h2
        exact absurd h2 he
      · rename_i he
        have he0 : endErr l r.rest.length = 0 := Classical.byContradiction he
        injection h with h1 _
        subst h1
        refine ⟨hc0, ?_⟩
        have hl := object_inv hb hob
        unfold endErr at he0
        split at he0
        · cases he0
        · split at he0
          · cases he0
          · rename_i h4 h4'
            have hr4 : r.rest.length = 4 := by omega
            split at he0
            · rename_i hv
              have hll : l.length - 4 = (bodyL o').length := by rw [hl, List.length_append]; omega
              have hbr : Bts r.rest := by rw [hl] at hb; exact hb.right
              rw [hll] at hv
              have e1 : l.drop (bodyL o').length = r.rest := by rw [hl, List.drop_left]
              have e2 : l.take (bodyL o').length = bodyL o' := by rw [hl, List.take_left]
              rw [e1, e2] at hv
              have := numL_valL r.rest hbr
              rw [hr4, hv] at this
              unfold bytesL
              rw [this]
              exact hl.symm
            · cases he0

end Go.Proofs.YtfknoecgcoapcaaDoor

namespace Go.Proofs.YtfknoecgcoapcaaDoor
open Go
set_option linter.unusedVariables false
set_option linter.unusedSimpArgs false

def funD (l : List Nat) (s : Ds) : (ByteArray × Int) × Ds := (((nameD l s).1, ((numD l 1 (nameD l s).2).1 : Int)), (numD l 1 (nameD l s).2).2)
def predD (l : List Nat) (s : Ds) : (ByteArray × Int × Int) × Ds :=
  (((nameD l s).1, ((numD l 1 (nameD l s).2).1 : Int), ((numD l 2 (numD l 1 (nameD l s).2).2).1 : Int)), (numD l 2 (numD l 1 (nameD l s).2).2).2)
def manyD {α : Type} (f : Ds → α × Ds) : Nat → Ds → List α × Ds
  | 0, s => ([], s)
  | n + 1, s => ((f s).1 :: (manyD f n (f s).2).1, (manyD f n (f s).2).2)
def argsD (l : List Nat) : List Int → Ds → List Int × Ds
  | [], s => ([], s)
  | k :: ks, s => (((numD l (sizeK k) s).1 : Int) :: (argsD l ks (numD l (sizeK k) s).2).1, (argsD l ks (numD l (sizeK k) s).2).2)
/-- Behind the operation's number: another one is told of. -/
def opD (o : Nat × Ds) : Ds := if o.2.2 = 0 ∧ 26 < o.1 then (o.2.1, 8) else o.2
def insD (l : List Nat) (s : Ds) : Ins × Ds :=
  (insOf (numD l 1 s).1 (argsD l (opsOf (numD l 1 s).1) (opD (numD l 1 s))).1, (argsD l (opsOf (numD l 1 s).1) (opD (numD l 1 s))).2)
def codeD (l : List Nat) : Nat → Ds → List Ins × Ds
  | 0, s => ([], s)
  | n + 1, s => if s.2 ≠ 0 then ([], s) else ((insD l s).1 :: (codeD l n (insD l s).2).1, (codeD l n (insD l s).2).2)
def magicD (l : List Nat) : List Nat → Nat → Int
  | [], _ => 0
  | m :: ms, i => if l.length ≤ i then 3 else if l.getD i 0 ≠ m then 5 else magicD l ms (i + 1)
/-- Behind the last instruction. -/
def endD (l : List Nat) (s : Ds) (o : Ob) : Ob × Int :=
  if checkOf o ≠ 0 then (emptyOb, checkOf o)
  else if (numD l 4 s).2.2 ≠ 0 then (emptyOb, (numD l 4 s).2.2)
  else if (numD l 4 s).2.1 < l.length then (emptyOb, 4)
  else if (numD l 4 s).1 ≠ crcOf 0 (l.take s.1) then (emptyOb, 6)
  else (o, 0)
def bodyD (l : List Nat) (a f p c : Nat) (s : Ds) : Ob × Int :=
  let l1 := manyD (nameD l) a s
  let l2 := manyD (funD l) f l1.2
  let l3 := manyD (predD l) p l2.2
  let l4 := codeD l c l3.2
  if l4.2.2 ≠ 0 then (emptyOb, l4.2.2) else endD l l4.2 ⟨l1.1, l2.1, l3.1, l4.1⟩
def decodeD (l : List Nat) : Ob × Int :=
  if magicD l [82, 83, 76, 86, 1] 0 ≠ 0 then (emptyOb, magicD l [82, 83, 76, 86, 1] 0)
  else
    let a := numD l 2 (5, 0)
    let f := numD l 2 a.2
    let p := numD l 2 f.2
    let c := numD l 2 p.2
    if c.2.2 ≠ 0 then (emptyOb, c.2.2)
    else if bigB a.1 f.1 p.1 c.1 then (emptyOb, 2)
    else bodyD l a.1 f.1 p.1 c.1 c.2

theorem fun_rel {l : List Nat} {s : Ds} {r : Rd} (h : Rel l s r) : (funD l s).1 = (funR r).1 ∧ Rel l (funD l s).2 (funR r).2 := by
  obtain ⟨a1, a2⟩ := name_rel h
  obtain ⟨b1, b2⟩ := num_rel 1 a2
  unfold funD funR
  exact ⟨by rw [a1, b1], b2⟩
theorem pred_rel {l : List Nat} {s : Ds} {r : Rd} (h : Rel l s r) : (predD l s).1 = (predR r).1 ∧ Rel l (predD l s).2 (predR r).2 := by
  obtain ⟨a1, a2⟩ := name_rel h
  obtain ⟨b1, b2⟩ := num_rel 1 a2
  obtain ⟨c1, c2⟩ := num_rel 2 b2
  unfold predD predR
  exact ⟨by rw [a1, b1, c1], c2⟩
theorem many_rel {α : Type} {l : List Nat} {f : Ds → α × Ds} {g : Rd → α × Rd} (hf : ∀ s r, Rel l s r → (f s).1 = (g r).1 ∧ Rel l (f s).2 (g r).2) :
    ∀ (n : Nat) (s : Ds) (r : Rd), Rel l s r → (manyD f n s).1 = (manyR g n r).1 ∧ Rel l (manyD f n s).2 (manyR g n r).2
  | 0, _, _, h => ⟨rfl, h⟩
  | n + 1, s, r, h => by
    obtain ⟨a1, a2⟩ := hf s r h
    obtain ⟨b1, b2⟩ := many_rel hf n _ _ a2
    rw [manyD, manyR]
    exact ⟨by rw [a1, b1], b2⟩
theorem args_rel {l : List Nat} : ∀ (ks : List Int) (s : Ds) (r : Rd), Rel l s r → (argsD l ks s).1 = (argsR ks r).1 ∧ Rel l (argsD l ks s).2 (argsR ks r).2
  | [], _, _, h => ⟨rfl, h⟩
  | k :: ks, s, r, h => by
    obtain ⟨a1, a2⟩ := num_rel (sizeK k) h
    obtain ⟨b1, b2⟩ := args_rel ks _ _ a2
    rw [argsD, argsR]
    exact ⟨by rw [a1, b1], b2⟩
theorem rd_dry {r : Rd} (h : r.short = true) : (⟨r.rest, true⟩ : Rd) = r := by
  cases r
  simp only at h
  rw [h]
theorem numR_dry {r : Rd} (h : r.short = true) (k : Nat) : numR k r = (0, r) := by
  unfold numR
  rw [takeR_short h, rd_dry h]
  rfl
theorem argsR_dry : ∀ (ks : List Int) (r : Rd), r.short = true → (argsR ks r).2 = r
  | [], _, _ => rfl
  | k :: ks, r, h => by
    rw [argsR, numR_dry h]
    exact argsR_dry ks r h
theorem codeR_dry : ∀ (n : Nat) (r : Rd), r.short = true → ∃ l, codeR n r = some (l, r)
  | 0, r, _ => ⟨[], rfl⟩
  | n + 1, r, h => by
    obtain ⟨l, hl⟩ := codeR_dry n r h
    have hi : insR r = some (insOf 0 (argsR (opsOf 0) r).1, r) := by
      unfold insR
      rw [numR_dry h]
      simp only
      rw [if_neg (by decide)]
      have e := argsR_dry (opsOf 0) r h
      show some (insOf 0 (argsR (opsOf 0) r).1, (argsR (opsOf 0) r).2) = _
      rw [e]
    exact ⟨insOf 0 (argsR (opsOf 0) r).1 :: l, by rw [codeR, hi]; simp only; rw [hl]⟩
theorem argsD_bad {l : List Nat} : ∀ (ks : List Int) (s : Ds), s.2 ≠ 0 → (argsD l ks s).2 = s
  | [], _, _ => rfl
  | k :: ks, s, h => by
    have e : numD l (sizeK k) s = (0, s) := by unfold numD; rw [if_pos h]
    rw [argsD, e]
    exact argsD_bad ks s h
theorem codeD_bad {l : List Nat} (n : Nat) {s : Ds} (h : s.2 ≠ 0) : codeD l n s = ([], s) := by
  cases n
  · rfl
  · rw [codeD, if_pos h]
theorem num_far {l : List Nat} {s : Ds} {k : Nat} (h : (numD l k s).1 ≠ 0) : (numD l k s).2.2 = 0 := by
  unfold numD at h ⊢
  split
  · rename_i hs
    rw [if_pos hs] at h
    exact absurd rfl h
  · rename_i hs
    rw [if_neg hs] at h
    split
    · rfl
    · rename_i hk
      rw [if_neg hk] at h
      exact absurd rfl h
theorem code_rel {l : List Nat} : ∀ (n : Nat) (s : Ds) (r : Rd), Rel l s r →
    (codeR n r = none → (codeD l n s).2.2 = 8) ∧ (∀ l4 r4, codeR n r = some (l4, r4) → Rel l (codeD l n s).2 r4 ∧ (r4.short = false → (codeD l n s).1 = l4))
  | 0, s, r, h => by
    refine ⟨fun h => (by cases h), fun l4 r4 h4 => ?_⟩
    injection h4 with h4
    injection h4 with h5 h6
    subst h5 h6
    exact ⟨h, fun _ => rfl⟩
  | n + 1, s, r, h => by
    by_cases hs : s.2 = 0
    case neg =>
      rw [codeD_bad _ hs]
      have hr : r.short = true := h.short.mpr hs
      obtain ⟨l9, h9⟩ := codeR_dry (n + 1) r hr
      refine ⟨fun h => (by rw [h9] at h; cases h), fun l4 r4 h4 => ?_⟩
      rw [h9] at h4
      injection h4 with h4
      injection h4 with h5 h6
      subst h6
      exact ⟨h, fun h => (by rw [hr] at h; cases h)⟩
    obtain ⟨a1, a2⟩ := num_rel 1 h
    rw [codeD, if_neg (by simpa using hs), codeR]
    by_cases ho : 26 < (numD l 1 s).1
    · have hi : insR r = none := by unfold insR; rw [← a1, if_pos ho]
      have h0 := num_far (l := l) (s := s) (k := 1) (by omega)
      have ht : opD (numD l 1 s) = ((numD l 1 s).2.1, 8) := by unfold opD; rw [if_pos ⟨h0, ho⟩]
      have hd : (insD l s).2 = ((numD l 1 s).2.1, 8) := by
        unfold insD
        rw [ht]
        exact argsD_bad _ _ (by show (8 : Int) ≠ 0; omega)
      rw [hi, hd, codeD_bad n (by show (8 : Int) ≠ 0; omega)]
      exact ⟨fun _ => rfl, fun l4 r4 h4 => by cases h4⟩
    · have ht : opD (numD l 1 s) = (numD l 1 s).2 := by unfold opD; rw [if_neg (fun h => ho h.2)]
      obtain ⟨b1, b2⟩ := args_rel (opsOf (numD l 1 s).1) _ _ a2
      have hi : insR r = some (insOf (numD l 1 s).1 (argsR (opsOf (numD l 1 s).1) (numR 1 r).2).1, (argsR (opsOf (numD l 1 s).1) (numR 1 r).2).2) := by
        unfold insR
        rw [← a1, if_neg ho]
      have hd : insD l s = (insOf (numD l 1 s).1 (argsR (opsOf (numD l 1 s).1) (numR 1 r).2).1, (argsD l (opsOf (numD l 1 s).1) (numD l 1 s).2).2) := by
        unfold insD
        rw [ht, b1]
      rw [hi, hd]
      simp only
      obtain ⟨c1, c2⟩ := code_rel n _ _ b2
      split
      · rename_i hn
        exact ⟨fun _ => c1 hn, fun l4 r4 h4 => by cases h4⟩
      · rename_i l9 r9 hn
        refine ⟨fun h => (by cases h), fun l4 r4 h4 => ?_⟩
        injection h4 with h4
        injection h4 with h5 h6
        subst h5 h6
        obtain ⟨d1, d2⟩ := c2 _ _ hn
        exact ⟨d1, fun hh => by rw [d2 hh]⟩
theorem magicR_dry : ∀ (ms : List Nat) (r : Rd), r.short = true → magicR ms r = some r
  | [], r, _ => rfl
  | m :: ms, r, h => by
    rw [magicR, takeR_short h, if_pos (.inr rfl)]
    show magicR ms ⟨r.rest, true⟩ = _
    rw [rd_dry h]
    exact magicR_dry ms r h
theorem magic_rel {l : List Nat} : ∀ (ms : List Nat) (i : Nat), i ≤ l.length →
    (magicR ms ⟨l.drop i, false⟩ = none ∧ magicD l ms i = 5) ∨ (∃ r0, magicR ms ⟨l.drop i, false⟩ = some r0 ∧ r0.short = true ∧ magicD l ms i = 3) ∨ (magicR ms ⟨l.drop i, false⟩ = some ⟨l.drop (i + ms.length), false⟩ ∧ i + ms.length ≤ l.length ∧ magicD l ms i = 0)
  | [], i, h => .inr (.inr ⟨rfl, h, rfl⟩)
  | m :: ms, i, h => by
    rw [magicR, magicD]
    by_cases hi : l.length ≤ i
    · rw [if_pos hi]
      have e : takeR 1 ⟨l.drop i, false⟩ = ([], ⟨l.drop i, true⟩) := by unfold takeR; rw [if_pos (.inr (by simp; omega))]
      rw [e, if_pos (.inr rfl)]
      exact .inr (.inl ⟨_, magicR_dry ms _ rfl, rfl, rfl⟩)
    · rw [if_neg hi]
      have e : takeR 1 ⟨l.drop i, false⟩ = ([l.getD i 0], ⟨l.drop (i + 1), false⟩) := by
        unfold takeR
        rw [if_neg (by simp; omega)]
        have := take_drop_snoc l i 0 (by omega)
        simp only [Nat.zero_add, List.take_zero, List.nil_append, Nat.add_zero] at this
        simp only [this, List.drop_drop]
      rw [e]
      by_cases hm : l.getD i 0 = m
      · rw [if_pos (.inl (by rw [hm])), if_neg (by simpa using hm)]
        have := magic_rel (l := l) ms (i + 1) (by omega)
        have el : i + (m :: ms).length = i + 1 + ms.length := by rw [List.length_cons]; omega
        rw [el]
        exact this
      · rw [if_neg (by simpa using hm), if_pos hm]
        exact .inl ⟨rfl, rfl⟩
theorem endD_eq {l : List Nat} {s : Ds} (h0 : s.2 = 0) (h : s.1 ≤ l.length) (o : Ob) :
    endD l s o = if checkOf o ≠ 0 then (emptyOb, checkOf o) else if endErr l (l.drop s.1).length ≠ 0 then (emptyOb, endErr l (l.drop s.1).length) else (o, 0) := by
  unfold endD
  by_cases hc : checkOf o ≠ 0
  · rw [if_pos hc, if_pos hc]
  rw [if_neg hc, if_neg hc]
  have hn : numD l 4 s = if s.1 + 4 ≤ l.length then (valL ((l.drop s.1).take 4), (s.1 + 4, 0)) else (0, (l.length, 3)) := by unfold numD; rw [if_neg (by simp [h0])]
  unfold endErr
  rw [hn, List.length_drop]
  by_cases h4 : s.1 + 4 ≤ l.length
  · rw [if_pos h4, if_neg (show ¬ l.length - s.1 < 4 by omega)]
    simp only
    rw [if_neg (by decide)]
    by_cases h5 : s.1 + 4 < l.length
    · rw [if_pos h5, if_pos (show 4 < l.length - s.1 by omega), if_pos (by decide)]
    · rw [if_neg h5, if_neg (show ¬ 4 < l.length - s.1 by omega), show l.length - 4 = s.1 by omega, List.take_of_length_le (show (l.drop s.1).length ≤ 4 by simp; omega)]
      by_cases hv : valL (l.drop s.1) = crcOf 0 (l.take s.1)
      · rw [if_neg (by simpa using hv), if_pos hv, if_neg (by decide)]
      · rw [if_pos hv, if_neg hv, if_pos (by decide)]
  · rw [if_neg h4, if_pos (show l.length - s.1 < 4 by omega)]
    simp only
    rw [if_pos (by decide), if_pos (by decide)]
theorem decodeD_eq (l : List Nat) : decodeD l = decodeOf l := by
  unfold decodeD decodeOf objectR
  rcases magic_rel (l := l) [82, 83, 76, 86, 1] 0 (Nat.zero_le _) with ⟨m1, m2⟩ | ⟨r0, m1, m2, m3⟩ | ⟨m1, m2, m3⟩
  · rw [List.drop_zero] at m1
    rw [m1, m2]
    rfl
  · rw [List.drop_zero] at m1
    rw [m1, m3]
    simp only
    rw [if_pos (by decide), numR_dry m2]
    simp only
    rw [numR_dry m2]
    simp only
    rw [numR_dry m2]
    simp only
    rw [numR_dry m2]
    simp only
    rw [if_pos m2]
  · rw [List.drop_zero] at m1
    rw [m1, m3, if_neg (by decide)]
    simp only [List.length_cons, List.length_nil, Nat.zero_add] at m2 ⊢
    have R0 : Rel l (5, 0) ⟨l.drop 5, false⟩ := .inl ⟨rfl, m2, rfl⟩
    obtain ⟨a1, a2⟩ := num_rel 2 R0
    obtain ⟨f1, f2⟩ := num_rel 2 a2
    obtain ⟨p1, p2⟩ := num_rel 2 f2
    obtain ⟨c1, c2⟩ := num_rel 2 p2
    generalize numD l 2 (5, 0) = da at *
    generalize numR 2 ⟨l.drop 5, false⟩ = ra at *
    generalize numD l 2 da.2 = df at *
    generalize numR 2 ra.2 = rf at *
    generalize numD l 2 df.2 = dp at *
    generalize numR 2 rf.2 = rp at *
    generalize numD l 2 dp.2 = dc at *
    generalize numR 2 rp.2 = rc at *
    rw [← a1, ← f1, ← p1, ← c1]
    by_cases hs : rc.2.short = true
    · have h3 : dc.2.2 = 3 := (c2.at_.2).resolve_left (c2.short.mp hs)
      rw [if_pos hs, if_pos (by rw [h3]; decide), h3]
    · have h0 : dc.2.2 = 0 := Classical.byContradiction fun h => hs (c2.short.mpr h)
      rw [if_neg hs, if_neg (by simp [h0])]
      by_cases hb : bigB da.1 df.1 dp.1 dc.1 = true
      · rw [if_pos hb, if_pos hb]
      · rw [if_neg hb, if_neg hb]
        unfold bodyD
        obtain ⟨x1, x2⟩ := many_rel (f := nameD l) (g := nameR) (fun s r h => name_rel h) da.1 _ _ c2
        obtain ⟨y1, y2⟩ := many_rel (f := funD l) (g := funR) (fun s r h => fun_rel h) df.1 _ _ x2
        obtain ⟨z1, z2⟩ := many_rel (f := predD l) (g := predR) (fun s r h => pred_rel h) dp.1 _ _ y2
        obtain ⟨w1, w2⟩ := code_rel dc.1 _ _ z2
        simp only
        generalize manyD (nameD l) da.1 dc.2 = u1 at *
        generalize manyR nameR da.1 rc.2 = v1 at *
        generalize manyD (funD l) df.1 u1.2 = u2 at *
        generalize manyR funR df.1 v1.2 = v2 at *
        generalize manyD (predD l) dp.1 u2.2 = u3 at *
        generalize manyR predR dp.1 v2.2 = v3 at *
        generalize codeD l dc.1 u3.2 = u4 at *
        cases hcr : codeR dc.1 v3.2 with
        | none =>
          have := w1 hcr
          rw [this, if_pos (by decide)]
        | some q =>
          obtain ⟨l4, r4⟩ := q
          obtain ⟨g1, g2⟩ := w2 _ _ hcr
          simp only
          by_cases hs4 : r4.short = true
          · have h3 : u4.2.2 = 3 := (g1.at_.2).resolve_left (g1.short.mp hs4)
            rw [if_pos hs4, if_pos (by rw [h3]; decide), h3]
          · have h4 : u4.2.2 = 0 := Classical.byContradiction fun h => hs4 (g1.short.mpr h)
            have g3 := g2 (by simpa using hs4)
            rw [if_neg hs4, if_neg (by simp [h4])]
            simp only
            rcases g1 with ⟨e1, e2, e3⟩ | ⟨e1, _⟩
            · rw [endD_eq e1 e2, x1, y1, z1, g3, e3]
            · rw [h4] at e1
              cases e1

end Go.Proofs.YtfknoecgcoapcaaDoor

namespace Go.Proofs.YtfknoecgcoapcaaDoor
open Go Go.RowKit Go.WideShapes Go.ChangeShapes
set_option linter.unusedVariables false
set_option linter.unusedSimpArgs false

/-- What the document's Decode keeps: its reader (g1), the answer (g2), the object under way (g3). -/
structure Dx (w wr : World) (g1 g2 g3 : Nat) (us : Array Value) (va vf vp vc : Value) (la : List ByteArray) (lf : List (ByteArray × Int)) (lp : List (ByteArray × Int × Int)) (lc : List Ins) : Prop where
  b1 : Box wr g1 97 us
  b2 : Box wr g2 27 #[.slice none 0 0, .slice none 0 0, .slice none 0 0, .slice none 0 0]
  b3 : Box wr g3 27 #[va, vf, vp, vc]
  ra : wr.ownsRow w.heap.size 9 1 va la.length (la.map Value.string)
  rf : wr.ownsRow w.heap.size 62 2 vf lf.length (lf.flatMap funC)
  rp : wr.ownsRow w.heap.size 65 3 vp lp.length (lp.flatMap predC)
  rc : wr.ownsRow w.heap.size 71 5 vc lc.length (lc.flatMap insC)
  below : Below w.heap.size w wr
  lt : w.heap.size ≤ g1 ∧ w.heap.size ≤ g2 ∧ w.heap.size ≤ g3 ∧ g1 ≠ g3 ∧ g2 ≠ g3 ∧ g1 ≠ g2
section
variable {w wr w' w6 : World} {g1 g2 g3 : Nat} {us : Array Value} {va vf vp vc v6 : Value} {la : List ByteArray} {lf : List (ByteArray × Int)} {lp : List (ByteArray × Int × Int)} {lc : List Ins}
theorem Dx.up (h : Dx w wr g1 g2 g3 us va vf vp vc la lf lp lc) (hb : Below wr.heap.size wr w') : Dx w w' g1 g2 g3 us va vf vp vc la lf lp lc :=
  ⟨h.b1.below hb h.b1.lt, h.b2.below hb h.b2.lt, h.b3.below hb h.b3.lt, own_fr (S := fun _ => False) h.ra (Fr.of_below hb) (fun _ _ x => x), own_fr (S := fun _ => False) h.rf (Fr.of_below hb) (fun _ _ x => x),
    own_fr (S := fun _ => False) h.rp (Fr.of_below hb) (fun _ _ x => x), own_fr (S := fun _ => False) h.rc (Fr.of_below hb) (fun _ _ x => x), h.below.trans (hb.mono h.below.size), h.lt⟩
theorem Dx.puta {s : ByteArray} (h : Dx w wr g1 g2 g3 us va vf vp vc la lf lp lc) (ha : App wr w6 w.heap.size 9 1 va v6 (la.length + 1) (la.map Value.string ++ [.string s])) :
    Dx w (w6.setCell ⟨g3, 0, none⟩ v6) g1 g2 g3 us v6 vf vp vc (la ++ [s]) lf lp lc ∧ w6.cell? ⟨g3, 0, none⟩ = some va ∧ w6.frozen? ⟨g3, 0, none⟩ = false := by
  have hb3 := h.b3.fr ha.fr (fun e => own_ne_box h.ra h.b3 (by decide) _ e rfl)
  have hb1 := h.b1.fr ha.fr (fun e => own_ne_box h.ra h.b1 (by decide) _ e rfl)
  have hb2 := h.b2.fr ha.fr (fun e => own_ne_box h.ra h.b2 (by decide) _ e rfl)
  refine ⟨⟨hb1.far (by show g1 ≠ g3; exact h.lt.2.2.2.1) _, hb2.far (by show g2 ≠ g3; exact h.lt.2.2.2.2.1) _, ?_, (by have h2 := own_set_far ha.own (p := ⟨g3, 0, none⟩) (fun k hk => own_ne_box ha.own hb3 (by decide) k hk) v6; rw [List.length_append, List.map_append]; simpa using h2), own_set_far (own_fr h.rf ha.fr (fun k hk e => own_ne_own h.rf h.ra (by decide) k hk e)) (p := ⟨g3, 0, none⟩) (fun k hk => own_ne_box (own_fr h.rf ha.fr (fun k hk e => own_ne_own h.rf h.ra (by decide) k hk e)) hb3 (by decide) k hk) v6, own_set_far (own_fr h.rp ha.fr (fun k hk e => own_ne_own h.rp h.ra (by decide) k hk e)) (p := ⟨g3, 0, none⟩) (fun k hk => own_ne_box (own_fr h.rp ha.fr (fun k hk e => own_ne_own h.rp h.ra (by decide) k hk e)) hb3 (by decide) k hk) v6, own_set_far (own_fr h.rc ha.fr (fun k hk e => own_ne_own h.rc h.ra (by decide) k hk e)) (p := ⟨g3, 0, none⟩) (fun k hk => own_ne_box (own_fr h.rc ha.fr (fun k hk e => own_ne_own h.rc h.ra (by decide) k hk e)) hb3 (by decide) k hk) v6, (h.below.trans (ha.fr.below h.below.size (fun k hk => (own_ge h.ra hk).1))).setCell (p := ⟨g3, 0, none⟩) h.lt.2.2.1 _, h.lt⟩, hb3.cell 0, hb3.frozen 0⟩
  have := hb3.set_ 0 v6
  simpa using this
theorem Dx.putf {s : ByteArray} {n : Int} (h : Dx w wr g1 g2 g3 us va vf vp vc la lf lp lc) (ha : App wr w6 w.heap.size 62 2 vf v6 (lf.length + 1) (lf.flatMap funC ++ [.string s, .int .i64 n])) :
    Dx w (w6.setCell ⟨g3, 1, none⟩ v6) g1 g2 g3 us va v6 vp vc la (lf ++ [(s, n)]) lp lc ∧ w6.cell? ⟨g3, 1, none⟩ = some vf ∧ w6.frozen? ⟨g3, 1, none⟩ = false := by
  have hb3 := h.b3.fr ha.fr (fun e => own_ne_box h.rf h.b3 (by decide) _ e rfl)
  have hb1 := h.b1.fr ha.fr (fun e => own_ne_box h.rf h.b1 (by decide) _ e rfl)
  have hb2 := h.b2.fr ha.fr (fun e => own_ne_box h.rf h.b2 (by decide) _ e rfl)
  refine ⟨⟨hb1.far (by show g1 ≠ g3; exact h.lt.2.2.2.1) _, hb2.far (by show g2 ≠ g3; exact h.lt.2.2.2.2.1) _, ?_, own_set_far (own_fr h.ra ha.fr (fun k hk e => own_ne_own h.ra h.rf (by decide) k hk e)) (p := ⟨g3, 1, none⟩) (fun k hk => own_ne_box (own_fr h.ra ha.fr (fun k hk e => own_ne_own h.ra h.rf (by decide) k hk e)) hb3 (by decide) k hk) v6, (by have h2 := own_set_far ha.own (p := ⟨g3, 1, none⟩) (fun k hk => own_ne_box ha.own hb3 (by decide) k hk) v6; rw [List.length_append, List.flatMap_append]; simpa [funC, predC, insC] using h2), own_set_far (own_fr h.rp ha.fr (fun k hk e => own_ne_own h.rp h.rf (by decide) k hk e)) (p := ⟨g3, 1, none⟩) (fun k hk => own_ne_box (own_fr h.rp ha.fr (fun k hk e => own_ne_own h.rp h.rf (by decide) k hk e)) hb3 (by decide) k hk) v6, own_set_far (own_fr h.rc ha.fr (fun k hk e => own_ne_own h.rc h.rf (by decide) k hk e)) (p := ⟨g3, 1, none⟩) (fun k hk => own_ne_box (own_fr h.rc ha.fr (fun k hk e => own_ne_own h.rc h.rf (by decide) k hk e)) hb3 (by decide) k hk) v6, (h.below.trans (ha.fr.below h.below.size (fun k hk => (own_ge h.rf hk).1))).setCell (p := ⟨g3, 1, none⟩) h.lt.2.2.1 _, h.lt⟩, hb3.cell 1, hb3.frozen 1⟩
  have := hb3.set_ 1 v6
  simpa using this
theorem Dx.putp {s : ByteArray} {n m : Int} (h : Dx w wr g1 g2 g3 us va vf vp vc la lf lp lc) (ha : App wr w6 w.heap.size 65 3 vp v6 (lp.length + 1) (lp.flatMap predC ++ [.string s, .int .i64 n, .int .i64 m])) :
    Dx w (w6.setCell ⟨g3, 2, none⟩ v6) g1 g2 g3 us va vf v6 vc la lf (lp ++ [(s, n, m)]) lc ∧ w6.cell? ⟨g3, 2, none⟩ = some vp ∧ w6.frozen? ⟨g3, 2, none⟩ = false := by
  have hb3 := h.b3.fr ha.fr (fun e => own_ne_box h.rp h.b3 (by decide) _ e rfl)
  have hb1 := h.b1.fr ha.fr (fun e => own_ne_box h.rp h.b1 (by decide) _ e rfl)
  have hb2 := h.b2.fr ha.fr (fun e => own_ne_box h.rp h.b2 (by decide) _ e rfl)
  refine ⟨⟨hb1.far (by show g1 ≠ g3; exact h.lt.2.2.2.1) _, hb2.far (by show g2 ≠ g3; exact h.lt.2.2.2.2.1) _, ?_, own_set_far (own_fr h.ra ha.fr (fun k hk e => own_ne_own h.ra h.rp (by decide) k hk e)) (p := ⟨g3, 2, none⟩) (fun k hk => own_ne_box (own_fr h.ra ha.fr (fun k hk e => own_ne_own h.ra h.rp (by decide) k hk e)) hb3 (by decide) k hk) v6, own_set_far (own_fr h.rf ha.fr (fun k hk e => own_ne_own h.rf h.rp (by decide) k hk e)) (p := ⟨g3, 2, none⟩) (fun k hk => own_ne_box (own_fr h.rf ha.fr (fun k hk e => own_ne_own h.rf h.rp (by decide) k hk e)) hb3 (by decide) k hk) v6, (by have h2 := own_set_far ha.own (p := ⟨g3, 2, none⟩) (fun k hk => own_ne_box ha.own hb3 (by decide) k hk) v6; rw [List.length_append, List.flatMap_append]; simpa [funC, predC, insC] using h2), own_set_far (own_fr h.rc ha.fr (fun k hk e => own_ne_own h.rc h.rp (by decide) k hk e)) (p := ⟨g3, 2, none⟩) (fun k hk => own_ne_box (own_fr h.rc ha.fr (fun k hk e => own_ne_own h.rc h.rp (by decide) k hk e)) hb3 (by decide) k hk) v6, (h.below.trans (ha.fr.below h.below.size (fun k hk => (own_ge h.rp hk).1))).setCell (p := ⟨g3, 2, none⟩) h.lt.2.2.1 _, h.lt⟩, hb3.cell 2, hb3.frozen 2⟩
  have := hb3.set_ 2 v6
  simpa using this
theorem Dx.putc {i0 i1 i2 i3 i4 : Int} (h : Dx w wr g1 g2 g3 us va vf vp vc la lf lp lc) (ha : App wr w6 w.heap.size 71 5 vc v6 (lc.length + 1) (lc.flatMap insC ++ [.int .i64 i0, .int .i64 i1, .int .i64 i2, .int .i64 i3, .int .i64 i4])) :
    Dx w (w6.setCell ⟨g3, 3, none⟩ v6) g1 g2 g3 us va vf vp v6 la lf lp (lc ++ [(i0, i1, i2, i3, i4)]) ∧ w6.cell? ⟨g3, 3, none⟩ = some vc ∧ w6.frozen? ⟨g3, 3, none⟩ = false := by
  have hb3 := h.b3.fr ha.fr (fun e => own_ne_box h.rc h.b3 (by decide) _ e rfl)
  have hb1 := h.b1.fr ha.fr (fun e => own_ne_box h.rc h.b1 (by decide) _ e rfl)
  have hb2 := h.b2.fr ha.fr (fun e => own_ne_box h.rc h.b2 (by decide) _ e rfl)
  refine ⟨⟨hb1.far (by show g1 ≠ g3; exact h.lt.2.2.2.1) _, hb2.far (by show g2 ≠ g3; exact h.lt.2.2.2.2.1) _, ?_, own_set_far (own_fr h.ra ha.fr (fun k hk e => own_ne_own h.ra h.rc (by decide) k hk e)) (p := ⟨g3, 3, none⟩) (fun k hk => own_ne_box (own_fr h.ra ha.fr (fun k hk e => own_ne_own h.ra h.rc (by decide) k hk e)) hb3 (by decide) k hk) v6, own_set_far (own_fr h.rf ha.fr (fun k hk e => own_ne_own h.rf h.rc (by decide) k hk e)) (p := ⟨g3, 3, none⟩) (fun k hk => own_ne_box (own_fr h.rf ha.fr (fun k hk e => own_ne_own h.rf h.rc (by decide) k hk e)) hb3 (by decide) k hk) v6, own_set_far (own_fr h.rp ha.fr (fun k hk e => own_ne_own h.rp h.rc (by decide) k hk e)) (p := ⟨g3, 3, none⟩) (fun k hk => own_ne_box (own_fr h.rp ha.fr (fun k hk e => own_ne_own h.rp h.rc (by decide) k hk e)) hb3 (by decide) k hk) v6, (by have h2 := own_set_far ha.own (p := ⟨g3, 3, none⟩) (fun k hk => own_ne_box ha.own hb3 (by decide) k hk) v6; rw [List.length_append, List.flatMap_append]; simpa [funC, predC, insC] using h2), (h.below.trans (ha.fr.below h.below.size (fun k hk => (own_ge h.rc hk).1))).setCell (p := ⟨g3, 3, none⟩) h.lt.2.2.1 _, h.lt⟩, hb3.cell 3, hb3.frozen 3⟩
  have := hb3.set_ 3 v6
  simpa using this
theorem Dx.read {us' : Array Value} (h : Dx w wr g1 g2 g3 us va vf vp vc la lf lp lc) (hb : Box w' g1 97 us') (hf : Fr (fun k => k = g1) wr w') : Dx w w' g1 g2 g3 us' va vf vp vc la lf lp lc :=
  ⟨hb, h.b2.fr hf (fun e => h.lt.2.2.2.2.2 e.symm), h.b3.fr hf (fun e => h.lt.2.2.2.1 e.symm), own_fr h.ra hf (fun k hk => own_ne_box h.ra h.b1 (by decide) k hk), own_fr h.rf hf (fun k hk => own_ne_box h.rf h.b1 (by decide) k hk),
    own_fr h.rp hf (fun k hk => own_ne_box h.rp h.b1 (by decide) k hk), own_fr h.rc hf (fun k hk => own_ne_box h.rc h.b1 (by decide) k hk), h.below.trans (hf.below h.below.size (fun k hk => by subst hk; exact h.lt.1)), h.lt⟩
/-- Another's cell in the reader is set. -/
theorem Dx.setr {i : Nat} {u : Value} (h : Dx w wr g1 g2 g3 us va vf vp vc la lf lp lc) : Dx w (wr.setCell ⟨g1, i, none⟩ u) g1 g2 g3 (us.setIfInBounds i u) va vf vp vc la lf lp lc :=
  h.read (h.b1.set_ i u) ((Fr.refl (fun k => k = g1) wr).setCell (p := ⟨g1, i, none⟩) (.inl rfl) u)
/-- The bytes stay. -/
theorem Dx.bys {v : Value} {l : List Nat} (h : Dx w wr g1 g2 g3 us va vf vp vc la lf lp lc) (hv : BysIn w v l) (hf : Fr (fun k => k = g1) wr w') : BysIn w' v l :=
  hv.below (h.below.trans (hf.below h.below.size (fun k hk => by subst hk; exact h.lt.1)))
/-- The object in memory. -/
theorem Dx.at_ (h : Dx w wr g1 g2 g3 us va vf vp vc la lf lp lc) : ObAt wr va vf vp vc ⟨la, lf, lp, lc⟩ :=
  ⟨CellsAt.of_own h.ra (by decide), CellsAt.of_own h.rf (by decide), CellsAt.of_own h.rp (by decide), CellsAt.of_own h.rc (by decide)⟩
end

end Go.Proofs.YtfknoecgcoapcaaDoor

namespace Go.Proofs.YtfknoecgcoapcaaDoor
open Go
set_option linter.unusedVariables false
set_option linter.unusedSimpArgs false

def PartCD (l : List Nat) (n j : Nat) (s s' : Ds) (m : List Ins) : Prop := m.length + j = n ∧ codeD l n s = (m ++ (codeD l j s').1, (codeD l j s').2)
theorem PartCD.start (l : List Nat) (n : Nat) (s : Ds) : PartCD l n n s s [] := ⟨by simp, rfl⟩
theorem PartCD.step {l : List Nat} {n j : Nat} {s s' : Ds} {m : List Ins} (h : PartCD l n (j + 1) s s' m) (h0 : s'.2 = 0) : PartCD l n j s (insD l s').2 (m ++ [(insD l s').1]) := by
  refine ⟨by have := h.1; simp; omega, ?_⟩
  rw [h.2, codeD, if_neg (by simp [h0])]
  simp
theorem PartCD.done {l : List Nat} {n : Nat} {s s' : Ds} {m : List Ins} (h : PartCD l n 0 s s' m) : codeD l n s = (m, s') := by
  rw [h.2, codeD]
  simp
theorem PartCD.bad {l : List Nat} {n j : Nat} {s s' : Ds} {m : List Ins} (h : PartCD l n j s s' m) (h0 : s'.2 ≠ 0) : codeD l n s = (m, s') := by
  rw [h.2, codeD_bad j h0]
  simp

def PartAD (l : List Nat) (ks : List Int) (j : Nat) (s s' : Ds) (m : List Int) : Prop := m.length = j ∧ argsD l ks s = (m ++ (argsD l (ks.drop j) s').1, (argsD l (ks.drop j) s').2)
theorem PartAD.start (l : List Nat) (ks : List Int) (s : Ds) : PartAD l ks 0 s s [] := ⟨rfl, rfl⟩
theorem PartAD.step {l : List Nat} {ks : List Int} {j : Nat} {s s' : Ds} {m : List Int} (h : PartAD l ks j s s' m) (hj : j < ks.length) :
    PartAD l ks (j + 1) s (numD l (sizeK (ks.getD j 0)) s').2 (m ++ [((numD l (sizeK (ks.getD j 0)) s').1 : Int)]) := by
  refine ⟨by have := h.1; simp; omega, ?_⟩
  have e : ks.drop j = ks.getD j 0 :: ks.drop (j + 1) := by
    rw [List.drop_eq_getElem_cons hj, List.getD_eq_getElem?_getD, List.getElem?_eq_getElem hj]
    rfl
  rw [h.2, e, argsD]
  simp
theorem PartAD.done {l : List Nat} {ks : List Int} {s s' : Ds} {m : List Int} (h : PartAD l ks ks.length s s' m) : argsD l ks s = (m, s') := by
  rw [h.2, List.drop_length, argsD]
  simp
theorem insD_of {l : List Nat} {s t : Ds} {o : Nat × Ds} {m : List Int} (ho : numD l 1 s = o) (h : argsD l (opsOf o.1) (opD o) = (m, t)) : insD l s = (insOf o.1 m, t) := by
  subst ho
  unfold insD
  rw [h]

/-- An instruction's cells. -/
def insCells (op : Int) (m : List Int) : Array Value := (insC (insOf op m)).toArray
theorem insCells_new (op : Int) : insCells op [] = #[.int .i64 op, .int .i64 0, .int .i64 0, .int .i64 0, .int .i64 0] := rfl
theorem insCells_step (op : Int) (m : List Int) (h : m.length < 4) (x : Int) : (insCells op m).setIfInBounds (1 + m.length) (.int .i64 x) = insCells op (m ++ [x]) := by
  match m, h with
  | [], _ => rfl
  | [_], _ => rfl
  | [_, _], _ => rfl
  | [_, _, _], _ => rfl
theorem insCells_at (op : Int) (m : List Int) (h : m.length < 4) : (insCells op m)[1 + m.length]? = some (.int .i64 0) := by
  match m, h with
  | [], _ => rfl
  | [_], _ => rfl
  | [_, _], _ => rfl
  | [_, _, _], _ => rfl

end Go.Proofs.YtfknoecgcoapcaaDoor

namespace Go.Proofs.YtfknoecgcoapcaaDoor
open Go
set_option linter.unusedVariables false
set_option linter.unusedSimpArgs false

theorem strOf_size8 (a : List Nat) : (strOf a).size = a.length := by
  show ((a.map UInt8.ofNat).toArray).size = _
  simp
theorem nameD_size (l : List Nat) (s : Ds) : (nameD l s).1.size ≤ l.length := by
  unfold nameD
  split
  · exact Nat.zero_le _
  · split
    · simp only [strOf_size8, List.length_take, List.length_drop]
      omega
    · exact Nat.zero_le _
theorem manyD_all {α : Type} {f : Ds → α × Ds} {P : α → Prop} (h : ∀ s, P (f s).1) : ∀ (n : Nat) (s : Ds), ∀ x ∈ (manyD f n s).1, P x
  | 0, _, x, hx => by simp [manyD] at hx
  | n + 1, s, x, hx => by
    rw [manyD] at hx
    rcases List.mem_cons.1 hx with rfl | hx
    · exact h s
    · exact manyD_all h n _ x hx
theorem manyD_len {α : Type} {f : Ds → α × Ds} : ∀ (n : Nat) (s : Ds), (manyD f n s).1.length = n
  | 0, _ => rfl
  | n + 1, s => by rw [manyD, List.length_cons, manyD_len n]
theorem codeD_len {l : List Nat} : ∀ (n : Nat) (s : Ds), (codeD l n s).1.length ≤ n
  | 0, _ => Nat.le_refl _
  | n + 1, s => by
    rw [codeD]
    split
    · exact Nat.zero_le _
    · have := codeD_len (l := l) n (insD l s).2
      simp only [List.length_cons]
      omega
/-- What was read keeps the conditions of Check's contract. -/
theorem read_wf {l : List Nat} (hm : l.length ≤ 1000000) {a f p c : Nat} (ha : a ≤ 1000000) (hf : f ≤ 1000000) (hp : p ≤ 1000000) (hc : c ≤ 1000000) {s1 s2 s3 s4 t1 t2 t3 t4 : Ds} {la : List ByteArray} {lf : List (ByteArray × Int)} {lp : List (ByteArray × Int × Int)} {lc : List Ins}
    (h1 : manyD (nameD l) a s1 = (la, t1)) (h2 : manyD (funD l) f s2 = (lf, t2)) (h3 : manyD (predD l) p s3 = (lp, t3)) (h4 : codeD l c s4 = (lc, t4)) : ObWf ⟨la, lf, lp, lc⟩ := by
  have hml : l.length ≤ maxLen := by unfold maxLen; omega
  have e1 : la = (manyD (nameD l) a s1).1 := by rw [h1]
  have e2 : lf = (manyD (funD l) f s2).1 := by rw [h2]
  have e3 : lp = (manyD (predD l) p s3).1 := by rw [h3]
  have e4 : lc = (codeD l c s4).1 := by rw [h4]
  refine ⟨?_, ?_, ?_, ?_, ?_, ?_, ?_⟩
  · rw [e1]
    exact manyD_all (P := fun x : ByteArray => x.size ≤ maxLen) (fun s => Nat.le_trans (nameD_size l s) hml) a s1
  · rw [e2]
    exact manyD_all (P := fun x : ByteArray × Int => x.1.size ≤ maxLen) (fun s => Nat.le_trans (nameD_size l s) hml) f s2
  · rw [e3]
    exact manyD_all (P := fun x : ByteArray × Int × Int => x.1.size ≤ maxLen) (fun s => Nat.le_trans (nameD_size l s) hml) p s3
  · rw [e1, manyD_len]
    exact ha
  · rw [e2, manyD_len]
    exact hf
  · rw [e3, manyD_len]
    exact hp
  · rw [e4]
    exact Nat.le_trans (codeD_len c s4) hc

end Go.Proofs.YtfknoecgcoapcaaDoor

namespace Go.Proofs.YtfknoecgcoapcaaDoor
open Go Go.RowKit Go.WideShapes Go.ChangeShapes
set_option linter.unusedVariables false
set_option linter.unusedSimpArgs false

theorem Dx.far {w wr : World} {g1 g2 g3 : Nat} {us : Array Value} {va vf vp vc : Value} {la : List ByteArray} {lf : List (ByteArray × Int)} {lp : List (ByteArray × Int × Int)} {lc : List Ins} (h : Dx w wr g1 g2 g3 us va vf vp vc la lf lp lc)
    {gx : Nat} {xs : Array Value} (hx : Box wr gx 71 xs) (hn : ∀ k, vc.ownBlock = some k → k ≠ gx) (hg : w.heap.size ≤ gx) (h1 : gx ≠ g1) (h2 : gx ≠ g2) (h3 : gx ≠ g3) (i : Nat) (u : Value) :
    Dx w (wr.setCell ⟨gx, i, none⟩ u) g1 g2 g3 us va vf vp vc la lf lp lc :=
  ⟨h.b1.far (by show g1 ≠ gx; exact h1.symm) _, h.b2.far (by show g2 ≠ gx; exact h2.symm) _, h.b3.far (by show g3 ≠ gx; exact h3.symm) _,
    own_set_far h.ra (p := ⟨gx, i, none⟩) (fun k hk => own_ne_box h.ra hx (by decide) k hk) u, own_set_far h.rf (p := ⟨gx, i, none⟩) (fun k hk => own_ne_box h.rf hx (by decide) k hk) u,
    own_set_far h.rp (p := ⟨gx, i, none⟩) (fun k hk => own_ne_box h.rp hx (by decide) k hk) u, own_set_far h.rc (p := ⟨gx, i, none⟩) (fun k hk => hn k hk) u, h.below.setCell (p := ⟨gx, i, none⟩) hg _, h.lt⟩
theorem Dx.end_ {w wr W : World} {g1 g2 g3 : Nat} {us : Array Value} {va vf vp vc : Value} {la : List ByteArray} {lf : List (ByteArray × Int)} {lp : List (ByteArray × Int × Int)} {lc : List Ins} (h : Dx w wr g1 g2 g3 us va vf vp vc la lf lp lc)
    (hf : Fr (fun k => k = g2) wr W) : ObAt W va vf vp vc ⟨la, lf, lp, lc⟩ ∧ Below w.heap.size w W :=
  ⟨⟨CellsAt.of_own (own_fr h.ra hf (fun k hk => own_ne_box h.ra h.b2 (by decide) k hk)) (by decide), CellsAt.of_own (own_fr h.rf hf (fun k hk => own_ne_box h.rf h.b2 (by decide) k hk)) (by decide),
    CellsAt.of_own (own_fr h.rp hf (fun k hk => own_ne_box h.rp h.b2 (by decide) k hk)) (by decide), CellsAt.of_own (own_fr h.rc hf (fun k hk => own_ne_box h.rc h.b2 (by decide) k hk)) (by decide)⟩,
    h.below.trans (hf.below h.below.size (fun k hk => by subst hk; exact h.lt.2.1))⟩

/-- What Operands hands back, nil or new. -/
theorem newInts_any {w w' : World} {l : List Int} {e : Ending} (hN : NewInts w l e w') :
    ∃ pl, e = .returned (.slice pl l.length l.length) ∧ Below w.heap.size w w' ∧ (0 < l.length → pl = some ⟨w.heap.size, 0, none⟩ ∧ Box w' w.heap.size 3 (l.map (Value.int .i64)).toArray) := by
  rcases hN with ⟨rfl, rfl, rfl⟩ | ⟨_, rfl, rfl⟩
  · exact ⟨none, rfl, Below.refl _ _, fun h => absurd h (by simp)⟩
  · exact ⟨_, rfl, alloc_below w _, fun _ => ⟨rfl, Box.new _ _ _⟩⟩
theorem numD4_lt {l : List Nat} (hl : ∀ c ∈ l, c < 256) (s : Ds) : (numD l 4 s).1 < 4294967296 := by
  unfold numD
  split
  · exact (by decide : (0 : Nat) < 4294967296)
  · split
    · have h := valL_lt8 ((l.drop s.1).take 4) (fun c hc => hl c (List.mem_of_mem_drop (List.mem_of_mem_take hc)))
      have h2 : 256 ^ ((l.drop s.1).take 4).length ≤ 256 ^ 4 := Nat.pow_le_pow_right (by decide) (by rw [List.length_take]; omega)
      exact Nat.lt_of_lt_of_le h h2
    · exact (by decide : (0 : Nat) < 4294967296)
theorem opD_le {l : List Nat} {o : Nat × Ds} (h : o.2.1 ≤ l.length) : (opD o).1 ≤ l.length := by
  unfold opD
  split
  · exact h
  · exact h
theorem opD_no {op : Nat} {s : Ds} (h : ¬ (s.2 = 0 ∧ 26 < op)) : opD (op, s) = s := by
  unfold opD
  rw [if_neg h]
theorem opD_yes {op : Nat} {s : Ds} (h : s.2 = 0 ∧ 26 < op) : opD (op, s) = (s.1, 8) := by
  unfold opD
  rw [if_pos h]
theorem sizeK_yes {k : Int} (h : k = 8) : sizeK k = 2 := by unfold sizeK; rw [if_pos h]
theorem sizeK_no {k : Int} (h : ¬ k = 8) : sizeK k = 1 := by unfold sizeK; rw [if_neg h]
theorem bys_head {w : World} {b off c n : Nat} {l : List Nat} (hn : n ≤ l.length) (hc : l.length ≤ c) (hc9 : c ≤ 9223372036854775807) (hb : b < w.heap.size)
    (hcell : ∀ k, k < l.length → w.cell? ⟨b, off + k, none⟩ = some (.int .u8 ((l.getD k 0 : Nat) : Int))) : BysIn w (.slice (some ⟨b, off, none⟩) n c) (l.take n) :=
  .inr ⟨b, off, c, by rw [List.length_take, Nat.min_eq_left hn], by rw [List.length_take]; omega, hc9, hb, fun k hk => by
    rw [List.length_take] at hk
    rw [hcell k (by omega)]
    congr 3
    rw [List.getD_eq_getElem?_getD, List.getD_eq_getElem?_getD, List.getElem?_take, if_pos (by omega)]⟩

end Go.Proofs.YtfknoecgcoapcaaDoor
