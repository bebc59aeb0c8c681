/-
  An instruction as a line: the program's funWord, named. Conditions: names of at most a million bytes, numbers of the tables.
-/
import Derived.Test.YtclkdlegogjnbaaGreatDoorQ35
namespace Go.Proofs.YtclkdlegogjnbaaGreatDoor
open Go Go.RowKit Go.WideShapes Go.ChangeShapes
set_option linter.unusedVariables false
set_option linter.unusedSimpArgs false

def funW (f : ByteArray × Int) : List UInt8 := f.1.data.toList ++ 47 :: Lib.itoa f.2
/-- The word of what an operand names. -/
def namedW (o : Ob) (kind n : Int) : List UInt8 :=
  if kind = 3 then (o.atoms.getD n.toNat ⟨#[]⟩).data.toList
  else if kind = 4 then funW (o.funs.getD n.toNat (⟨#[]⟩, 0))
  else if kind = 7 then funW ((o.preds.getD n.toNat (⟨#[]⟩, 0, 0)).1, (o.preds.getD n.toNat (⟨#[]⟩, 0, 0)).2.1)
  else 64 :: Lib.itoa n
/-- What is asked of an operand that names. -/
def inTab (o : Ob) (kind n : Int) : Prop :=
  0 ≤ n ∧ n ≤ 4000000 ∧ (kind = 3 → n.toNat < o.atoms.length) ∧ (kind = 4 → n.toNat < o.funs.length) ∧ (kind = 7 → n.toNat < o.preds.length)
/-- Names are no longer than can be written. -/
structure NamesWf (o : Ob) : Prop where
  atoms : ∀ s ∈ o.atoms, s.size ≤ 1000000
  funs : ∀ f ∈ o.funs, f.1.size ≤ 1000000 ∧ -9223372036854775808 ≤ f.2 ∧ f.2 ≤ 9223372036854775807
  preds : ∀ p ∈ o.preds, p.1.size ≤ 1000000 ∧ -9223372036854775808 ≤ p.2.1 ∧ p.2.1 ≤ 9223372036854775807

set_option maxHeartbeats 1000000 in
theorem funWord_any (f : ByteArray) (n : Int) (hf : f.size ≤ 1000000) (h0 : -9223372036854775808 ≤ n) (h1 : n ≤ 9223372036854775807) (w : World) {B : Nat} (hp : LaidC B w) :
    Calls Tryz.prog 44 #[.string f, .int .i64 n] w fun e w' => e = .returned (.string (bs (funW (f, n)))) ∧ Below w.heap.size w w' := by
  have hw : bs (funW (f, n)) = f ++ ⟨#[47]⟩ ++ bs (Lib.itoa n) := by
    apply ByteArray.ext
    simp [bs, funW]
  obtain ⟨s, hs, hsz⟩ : ∃ s, bs (Lib.itoa n) = s ∧ s.size ≤ 21 := ⟨_, rfl, by rw [bs_size]; have := Lib.itoa_length_le n h0 h1; omega⟩
  have hi := fun w (hp : LaidC B w) => itoa_any n h0 h1 w hp
  rw [hs] at hw hi
  rw [hw]
  have HI := Lib.hid hi
  have HP := Lib.hid hp
  clear hw hi hp hs
  have z1 : (f ++ ⟨#[47]⟩ : ByteArray).size = f.size + 1 := by rw [ByteArray.size_append]; rfl
  go_enter Tryz.func44, Tryz.ntmps44
  go_wp2_with (refine (HI.out _ HP.out).mono ?_; rintro e w' ⟨rfl, hb⟩)
  go_ret
  exact ⟨rfl, hb⟩

set_option maxRecDepth 100000 in
set_option maxHeartbeats 4000000 in
theorem named_anyL (o : Ob) (hn : NamesWf o) (kind n : Int) (hk : kind = 3 ∨ kind = 4 ∨ kind = 7 ∨ kind = 8) (ht : inTab o kind n) (va vf vp vc : Value) (w : World) {B : Nat} (hp : LaidC B w) (hv : ObAt w va vf vp vc o) :
    Calls Tryz.prog 72 #[.agg #[va, vf, vp, vc], .int .i64 kind, .int .i64 n] w fun e w' => e = .returned (.string (bs (namedW o kind n))) ∧ Below w.heap.size w w' := by
  obtain ⟨A1, c1, rfl⟩ := hv.atoms.form
  obtain ⟨A2, c2, rfl⟩ := hv.funs.form
  obtain ⟨A3, c3, rfl⟩ := hv.preds.form
  obtain ⟨A4, c4, rfl⟩ := hv.code.form
  obtain ⟨t0, t1, t3, t4, t7⟩ := ht
  obtain ⟨k, rfl⟩ := Int.eq_ofNat_of_zero_le t0
  simp only [Int.toNat_natCast] at t3 t4 t7
  have HB := Lib.hid (alloc_below w (.cells #[.slice A1 o.atoms.length c1, .slice A2 o.funs.length c2, .slice A3 o.preds.length c3, .slice A4 o.code.length c4] 39))
  have HX := Lib.hid (Box.new w 39 #[.slice A1 o.atoms.length c1, .slice A2 o.funs.length c2, .slice A3 o.preds.length c3, .slice A4 o.code.length c4])
  rcases hk with rfl | rfl | rfl | rfl
  · have hlt := t3 rfl
    have HR : Hid (bs (namedW o 3 (k : Int)) = o.atoms[k]) := Lib.hid (by
      rw [namedW, if_pos rfl, str_bs, Int.toNat_natCast, List.getD_eq_getElem?_getD, List.getElem?_eq_getElem hlt]
      rfl)
    generalize bs (namedW o 3 (k : Int)) = r at HR ⊢
    obtain ⟨b, off, rfl, hb, hc⟩ := atomCell hv.atoms k hlt
    have d0 := (HB.out.cell (p := ⟨b, off + k, none⟩) hb).trans hc
    have q0 := HX.out.cell 0
    clear hv hc t3 t4 t7
    generalize o.atoms[k] = x at d0 HR
    go_enter Tryz.func72, Tryz.ntmps72
    go_wp2
    go_ret
    exact ⟨by rw [HR.out] <;> rfl, HB.out⟩
  · have hlt := t4 rfl
    have HR : Hid (bs (namedW o 4 (k : Int)) = bs (funW (o.funs[k].1, o.funs[k].2))) := Lib.hid (by
      rw [namedW, if_neg (by decide), if_pos rfl, Int.toNat_natCast, List.getD_eq_getElem?_getD, List.getElem?_eq_getElem hlt]
      rfl)
    generalize bs (namedW o 4 (k : Int)) = r at HR ⊢
    obtain ⟨b, off, rfl, hb, hc0, hc1⟩ := funCell hv.funs k hlt
    have d0 := (HB.out.cell (p := ⟨b, off + k * 2, none⟩) hb).trans hc0
    have d1 := (HB.out.cell (p := ⟨b, off + k * 2 + 1, none⟩) hb).trans hc1
    have q1 := HX.out.cell 1
    have hsz := hn.funs _ (List.getElem_mem hlt)
    have HF := Lib.hid (fun w h => funWord_any o.funs[k].1 o.funs[k].2 hsz.1 hsz.2.1 hsz.2.2 w (B := B) h)
    clear hv hc0 hc1 t3 t4 t7
    generalize o.funs[k].1 = x at d0 HR HF
    generalize o.funs[k].2 = y at d1 HR HF
    have HP := Lib.hid ((hp.up HB.out).up (alloc_below _ (.cells #[.string x, .int .i64 y] 82)))
    have HB2 := Lib.hid (HB.out.alloc HB.out.size (.cells #[.string x, .int .i64 y] 82))
    go_enter Tryz.func72, Tryz.ntmps72
    go_wp2_with (go_at_call 44; refine (HF.out _ HP.out).mono ?_; rintro e w2 ⟨rfl, hb2⟩; have HB3 := Lib.hid (HB2.out.trans (hb2.mono HB2.out.size)); clear hb2)
    go_ret
    exact ⟨by rw [HR.out] <;> rfl, HB3.out⟩
  · have hlt := t7 rfl
    have HR : Hid (bs (namedW o 7 (k : Int)) = bs (funW (o.preds[k].1, o.preds[k].2.1))) := Lib.hid (by
      rw [namedW, if_neg (by decide), if_neg (by decide), if_pos rfl, Int.toNat_natCast, List.getD_eq_getElem?_getD, List.getElem?_eq_getElem hlt]
      rfl)
    generalize bs (namedW o 7 (k : Int)) = r at HR ⊢
    obtain ⟨b, off, rfl, hb, hc0, hc1, hc2⟩ := predCell hv.preds k hlt
    have d0 := (HB.out.cell (p := ⟨b, off + k * 3, none⟩) hb).trans hc0
    have d1 := (HB.out.cell (p := ⟨b, off + k * 3 + 1, none⟩) hb).trans hc1
    have d2 := (HB.out.cell (p := ⟨b, off + k * 3 + 2, none⟩) hb).trans hc2
    have q2 := HX.out.cell 2
    have hsz := hn.preds _ (List.getElem_mem hlt)
    have HF := Lib.hid (fun w h => funWord_any o.preds[k].1 o.preds[k].2.1 hsz.1 hsz.2.1 hsz.2.2 w (B := B) h)
    clear hv hc0 hc1 hc2 t3 t4 t7
    generalize o.preds[k].1 = x at d0 HR HF
    generalize o.preds[k].2.1 = y at d1 HR HF
    generalize o.preds[k].2.2 = z at d2
    have HP := Lib.hid ((hp.up HB.out).up (alloc_below _ (.cells #[.string x, .int .i64 y, .int .i64 z] 64)))
    have HB2 := Lib.hid (HB.out.alloc HB.out.size (.cells #[.string x, .int .i64 y, .int .i64 z] 64))
    go_enter Tryz.func72, Tryz.ntmps72
    go_wp2_with (go_at_call 44; refine (HF.out _ HP.out).mono ?_; rintro e w2 ⟨rfl, hb2⟩; have HB3 := Lib.hid (HB2.out.trans (hb2.mono HB2.out.size)); clear hb2)
    go_ret
    exact ⟨by rw [HR.out] <;> rfl, HB3.out⟩
  · have HR : Hid (bs (namedW o 8 (k : Int)) = ⟨#[64]⟩ ++ bs (Lib.itoa (k : Int))) := Lib.hid (by
      rw [namedW, if_neg (by decide), if_neg (by decide), if_neg (by decide), cons_bs])
    generalize bs (namedW o 8 (k : Int)) = r at HR ⊢
    have HI := Lib.hid (fun w (hp : LaidC B w) => itoa_any (k : Int) (by omega) (by omega) w hp)
    obtain ⟨s, hs, hsz⟩ : ∃ s, bs (Lib.itoa (k : Int)) = s ∧ s.size ≤ 21 := ⟨_, rfl, by rw [bs_size]; have := Lib.itoa_length_le (k : Int) (by omega) (by omega); omega⟩
    rw [hs] at HI HR
    have HP := Lib.hid (hp.up HB.out)
    clear hs hv t3 t4 t7
    go_enter Tryz.func72, Tryz.ntmps72
    go_wp2_with (go_at_call 45; refine (HI.out _ HP.out).mono ?_; rintro e w2 ⟨rfl, hb2⟩; have HB3 := Lib.hid (HB.out.trans (hb2.mono HB.out.size)); clear hb2)
    go_ret
    exact ⟨by rw [HR.out] <;> rfl, HB3.out⟩

end Go.Proofs.YtclkdlegogjnbaaGreatDoor
