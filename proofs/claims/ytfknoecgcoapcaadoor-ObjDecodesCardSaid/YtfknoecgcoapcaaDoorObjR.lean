/-
  The program's Decode: the object whose bytes they are, or what is wrong first; new memory alone. Conditions: at most a million bytes; the world holds the names of the instructions.
-/
import Derived.Test.YtfknoecgcoapcaaDoorObjQ
namespace Go.Proofs.YtfknoecgcoapcaaDoor
open Go Go.RowKit Go.WideShapes Go.ChangeShapes
set_option linter.unusedVariables false
set_option linter.unusedSimpArgs false

theorem take_le (n : Nat) (r : Rd) : (takeR n r).2.rest.length ≤ r.rest.length := by
  unfold takeR
  split
  · exact Nat.le_refl _
  · simp
theorem nameR_le (r : Rd) : (nameR r).2.rest.length ≤ r.rest.length := Nat.le_trans (take_le _ _) (take_le _ _)
theorem funR_le (r : Rd) : (funR r).2.rest.length ≤ r.rest.length := Nat.le_trans (take_le _ _) (nameR_le _)
theorem predR_le (r : Rd) : (predR r).2.rest.length ≤ r.rest.length := Nat.le_trans (take_le _ _) (Nat.le_trans (take_le _ _) (nameR_le _))
theorem many_le {α : Type} {f : Rd → α × Rd} (hf : ∀ r, (f r).2.rest.length ≤ r.rest.length) : ∀ (n : Nat) (r : Rd), (manyR f n r).2.rest.length ≤ r.rest.length
  | 0, _ => Nat.le_refl _
  | n + 1, r => Nat.le_trans (many_le hf n (f r).2) (hf r)
theorem argsR_le : ∀ (ks : List Int) (r : Rd), (argsR ks r).2.rest.length ≤ r.rest.length
  | [], _ => Nat.le_refl _
  | k :: ks, r => Nat.le_trans (argsR_le ks _) (take_le _ _)
theorem insR_le {r r' : Rd} {i : Ins} (h : insR r = some (i, r')) : r'.rest.length ≤ r.rest.length := by
  unfold insR at h
  split at h
  · cases h
  · injection h with h
    injection h with _ h
    rw [← h]
    exact Nat.le_trans (argsR_le _ _) (take_le _ _)
theorem codeR_le : ∀ (n : Nat) (r r' : Rd) (l : List Ins), codeR n r = some (l, r') → r'.rest.length ≤ r.rest.length
  | 0, r, r', l, h => by
    injection h with h
    injection h with _ h
    rw [← h]
    exact Nat.le_refl _
  | n + 1, r, r', l, h => by
    unfold codeR at h
    split at h
    · cases h
    · rename_i i r2 hi
      split at h
      · cases h
      · rename_i m r3 hc
        injection h with h
        injection h with _ h
        rw [← h]
        exact Nat.le_trans (codeR_le n r2 r3 m hc) (insR_le hi)
theorem magicR_le : ∀ (ms : List Nat) (r r' : Rd), magicR ms r = some r' → r'.rest.length ≤ r.rest.length
  | [], r, r', h => by
    injection h with h
    rw [← h]
    exact Nat.le_refl _
  | m :: ms, r, r', h => by
    unfold magicR at h
    split at h
    · exact Nat.le_trans (magicR_le ms _ _ h) (take_le _ _)
    · cases h
theorem object_cases (r : Rd) : objectR r = .error 5 ∨ ∃ r0 a f p c r4, magicR magicL r = some r0 ∧ manyR (numR 2) 4 r0 = ([a, f, p, c], r4) ∧ objectR r = restR a f p c r4 := by
  cases h : magicR magicL r with
  | none => exact .inl (object_bad h)
  | some r0 => exact .inr ⟨r0, _, _, _, _, _, rfl, rfl, object_ok h rfl⟩
theorem object_err {r : Rd} {c : Int} (h : objectR r = .error c) : c ≠ 0 := by
  rcases object_cases r with h1 | ⟨r0, a, f, p, d, r4, _, _, h1⟩
  · rw [h1] at h
    injection h with h
    omega
  · rw [h1] at h
    unfold restR at h
    split at h
    · injection h with h; omega
    · split at h
      · injection h with h; omega
      · split at h
        · injection h with h; omega
        · split at h
          · injection h with h; omega
          · cases h
theorem object_le {r r' : Rd} {o : Ob} (h : objectR r = .ok (o, r')) : r'.rest.length ≤ r.rest.length := by
  rcases object_cases r with h1 | ⟨r0, a, f, p, d, r4, hm, h4, h1⟩
  · rw [h1] at h; cases h
  · rw [h1] at h
    unfold restR at h
    split at h
    · cases h
    · split at h
      · cases h
      · split at h
        · cases h
        · rename_i l4 r5 hc
          split at h
          · cases h
          · injection h with h
            injection h with _ h
            rw [← h]
            have e1 := magicR_le _ _ _ hm
            have e2 := many_le (fun r => take_le 2 r) 4 r0
            have e3 := many_le nameR_le a r4
            have e4 := many_le funR_le f (manyR nameR a r4).2
            have e5 := many_le predR_le p (manyR funR f (manyR nameR a r4).2).2
            have e6 := codeR_le _ _ _ _ hc
            have e7 : (manyR (numR 2) 4 r0).2 = r4 := by rw [h4]
            have e8 : (manyR (numR 2) 4 r0).2.rest.length ≤ r0.rest.length := e2
            rw [e7] at e8
            omega

/-- What decoding comes to. -/
def Decoded (w : World) (l : List Nat) (e : Ending) (w' : World) : Prop :=
  ∃ va vf vp vc, e = .returned (.tuple #[.agg #[va, vf, vp, vc], .int .i64 (decodeOf l).2]) ∧ ObAt w' va vf vp vc (decodeOf l).1 ∧ Below w.heap.size w w'
theorem empty_at (w : World) : ObAt w (.slice none 0 0) (.slice none 0 0) (.slice none 0 0) (.slice none 0 0) emptyOb :=
  ⟨.inl ⟨rfl, rfl, _, _, rfl⟩, .inl ⟨rfl, rfl, _, _, rfl⟩, .inl ⟨rfl, rfl, _, _, rfl⟩, .inl ⟨rfl, rfl, _, _, rfl⟩⟩
theorem decoded_bad {w w' : World} {l : List Nat} {c : Int} (h : decodeOf l = (emptyOb, c)) (hb : Below w.heap.size w w') :
    Decoded w l (.returned (.tuple #[.agg #[.slice none 0 0, .slice none 0 0, .slice none 0 0, .slice none 0 0], .int .i64 c])) w' := by
  refine ⟨.slice none 0 0, .slice none 0 0, .slice none 0 0, .slice none 0 0, by rw [h], ?_, hb⟩
  rw [h]
  exact empty_at w'

set_option maxRecDepth 100000 in
set_option maxHeartbeats 8000000 in
theorem decode_any (l : List Nat) (hl : ∀ c ∈ l, c < 256) (hm : l.length ≤ 1000000) (v : Value) (w : World) (hw : NamesAt w) (hv : BysIn w v l) :
    Calls Tryd.prog 18 #[v] w (Decoded w l) := by
  obtain ⟨A, c, rfl⟩ := hv.form
  have HD : Hid (decodeOf l = match objectR ⟨l, false⟩ with
    | .error e => (emptyOb, e)
    | .ok (o, r) => if checkOf o ≠ 0 then (emptyOb, checkOf o) else if endErr l r.rest.length ≠ 0 then (emptyOb, endErr l r.rest.length) else (o, 0)) := Lib.hid rfl
  have B2 : Hid (Box ((w.alloc (.cells #[.slice none 0 0, .slice none 0 0, .slice none 0 0, .slice none 0 0] 36)).alloc (.cells #[.slice A l.length c, .bool false] 92)) w.heap.size 36 #[.slice none 0 0, .slice none 0 0, .slice none 0 0, .slice none 0 0]) := Lib.hid ((Box.new w _ _).alloc _)
  have HBW := Lib.hid (two_below w (.cells #[.slice none 0 0, .slice none 0 0, .slice none 0 0, .slice none 0 0] 36) (.cells #[.slice A l.length c, .bool false] 92))
  have HR : Hid (RdAt w ((w.alloc (.cells #[.slice none 0 0, .slice none 0 0, .slice none 0 0, .slice none 0 0] 36)).alloc (.cells #[.slice A l.length c, .bool false] 92)) (w.heap.size + 1) ⟨l, false⟩) := Lib.hid ⟨⟨_, by
      have h := Box.new (w.alloc (.cells #[.slice none 0 0, .slice none 0 0, .slice none 0 0, .slice none 0 0] 36)) 92 #[.slice A l.length c, .bool false]
      rw [World.size_alloc] at h
      exact h, hv⟩, by omega, HBW.out⟩
  have HOJ := Lib.hid (object_any ⟨l, false⟩ hl (w.heap.size + 1) w _ HR.out (by simp) (hw.below HBW.out hw.lt) (by have := hw.lt; omega))
  have HVB := Lib.hid hv
  have HWN := Lib.hid hw
  have HL := Lib.hid hl
  unfold ObjRes at HOJ
  have HOL := Lib.hid (fun o r' h => object_le (r := ⟨l, false⟩) (o := o) (r' := r') h)
  have HOE := Lib.hid (fun c h => object_err (r := ⟨l, false⟩) (c := c) h)
  generalize objectR ⟨l, false⟩ = ob at HD HOJ HOL HOE
  clear hv hw hl
  obtain ⟨w1, hw1⟩ : ∃ w1, (w.alloc (.cells #[.slice none 0 0, .slice none 0 0, .slice none 0 0, .slice none 0 0] 36)).alloc (.cells #[.slice A l.length c, .bool false] 92) = w1 := ⟨_, rfl⟩
  rw [hw1] at B2 HBW HR HOJ
  have HW1 := Lib.hid hw1
  clear hw1
  cases ob with
  | error ec =>
    have hne0 := HOE.out ec rfl
    have hne := ne_zero hne0
    have hne2 : (ec == 0) = false := by simpa using hne0
    have HX : Hid (decodeOf l = (emptyOb, ec)) := Lib.hid HD.out
    have HO2 := Lib.hid (HOJ.out.mono (R' := fun e w' => e = .returned (.tuple #[.agg #[.slice none 0 0, .slice none 0 0, .slice none 0 0, .slice none 0 0], .int .i64 ec]) ∧ Fr (fun b => b = w.heap.size + 1) w1 w') (fun e w' h => by
      rcases h with ⟨c', h1, h2, h3⟩ | ⟨_, _, _, _, _, _, h1, _⟩
      · injection h1 with h1
        subst h1
        exact ⟨h2, h3⟩
      · cases h1))
    clear hne0 HOJ HOE HOL HD
    go_enter Tryd.func18, Tryd.ntmps18
    go_upto_region 2 with (fail)
    rw [HW1.out]
    go_upto_region 8 with (go_at_call 46; refine HO2.out.mono ?_; rintro e w5 ⟨rfl, hf5⟩; have HB5 := Lib.hid ((B2.out.fr hf5 (fun e => by omega)).alloc (.cells #[.slice none 0 0, .slice none 0 0, .slice none 0 0, .slice none 0 0] 36)); have HF5 := Lib.hid ((HBW.out.trans (hf5.below (B := w.heap.size) HBW.out.size (fun k hk => by omega))).alloc (Nat.le_trans HBW.out.size hf5.size) (.cells #[.slice none 0 0, .slice none 0 0, .slice none 0 0, .slice none 0 0] 36)); clear hf5)
    obtain ⟨w6, hw6⟩ : ∃ w6, w5.alloc (.cells #[.slice none 0 0, .slice none 0 0, .slice none 0 0, .slice none 0 0] 36) = w6 := ⟨_, rfl⟩
    rw [hw6] at HB5 HF5 ⊢
    have b0 : w6.cell? ⟨w.heap.size, 0, none⟩ = some (.slice none 0 0) := HB5.out.cell 0
    have z0 : w6.frozen? ⟨w.heap.size, 0, none⟩ = false := HB5.out.frozen 0
    have b1 : w6.cell? ⟨w.heap.size, 1, none⟩ = some (.slice none 0 0) := HB5.out.cell 1
    have z1 : w6.frozen? ⟨w.heap.size, 1, none⟩ = false := HB5.out.frozen 1
    have b2 : w6.cell? ⟨w.heap.size, 2, none⟩ = some (.slice none 0 0) := HB5.out.cell 2
    have z2 : w6.frozen? ⟨w.heap.size, 2, none⟩ = false := HB5.out.frozen 2
    have b3 : w6.cell? ⟨w.heap.size, 3, none⟩ = some (.slice none 0 0) := HB5.out.cell 3
    have z3 : w6.frozen? ⟨w.heap.size, 3, none⟩ = false := HB5.out.frozen 3
    clear hw6
    go_wp2
    refine ret_store4 (x := .int .i64 ec) HB5.out (by intro W c0 c1 c2 c3; simp [results, Tryd.results18, go_sem, c0, c1, c2, c3]) ?_
    intro W hW hF
    exact decoded_bad HX.out (HF5.out.trans (hF.below HF5.out.size (fun k hk => by omega)))
  | ok x =>
    obtain ⟨o, r'⟩ := x
    have HLE := Lib.hid (HOL.out o r' rfl)
    have HX : Hid (decodeOf l = if checkOf o ≠ 0 then (emptyOb, checkOf o) else if endErr l r'.rest.length ≠ 0 then (emptyOb, endErr l r'.rest.length) else (o, 0)) := Lib.hid HD.out
    have HO2 := Lib.hid (HOJ.out.mono (R' := fun e w' => ∃ va vf vp vc, e = .returned (.tuple #[.agg #[va, vf, vp, vc], .int .i64 0]) ∧ ObAt w' va vf vp vc o ∧ RdAt w w' (w.heap.size + 1) r' ∧ Fr (fun b => b = w.heap.size + 1) w1 w' ∧ ObWf o ∧ NewOb w1.heap.size va vf vp vc) (fun e w' h => by
      rcases h with ⟨c', h1, _⟩ | ⟨o', r2, va, vf, vp, vc, h1, h2, h3, h4, h5, _, h7, h8, h10⟩
      · cases h1
      · injection h1 with h1
        injection h1 with h1 h9
        subst h1 h9
        have hb : ¬ (256 < o.atoms.length ∨ 256 < o.funs.length ∨ 64 < o.preds.length ∨ 1024 < o.code.length) := of_decide_eq_false h7
        exact ⟨va, vf, vp, vc, h2, h3, h4, h5, ⟨fun s hs => by have := h8 s (.inl hs); unfold maxLen; omega, fun f hf => by have := h8 f.1 (.inr (.inl ⟨f, hf, rfl⟩)); unfold maxLen; omega, fun p hp => by have := h8 p.1 (.inr (.inr ⟨p, hp, rfl⟩)); unfold maxLen; omega, by omega, by omega, by omega, by omega⟩, h10⟩))
    have hxl : r'.rest.length ≤ l.length := HLE.out
    clear HOJ HOE HOL HD
    go_enter Tryd.func18, Tryd.ntmps18
    go_upto_region 2 with (fail)
    rw [HW1.out]
    go_upto_region 3 with (go_at_call 46; refine HO2.out.mono ?_; rintro e w5 ⟨va, vf, vp, vc, rfl, ho5, hr5, hf5, hwf5, hnw5⟩; obtain ⟨Aa, ca, rfl⟩ := CellsAt.form ho5.atoms; obtain ⟨Af, cf, rfl⟩ := CellsAt.form ho5.funs; obtain ⟨Ap, cp, rfl⟩ := CellsAt.form ho5.preds; obtain ⟨Ac, cc, rfl⟩ := CellsAt.form ho5.code; have HO5 := Lib.hid ho5; have HR5 := Lib.hid hr5; have HF5 := Lib.hid hf5; have HWF := Lib.hid hwf5; have HNW := Lib.hid hnw5; clear ho5 hr5 hf5 hwf5 hnw5)
    have KB : Hid (CkB w5 (w5.alloc (.cells #[.slice Aa o.atoms.length ca, .slice Af o.funs.length cf, .slice Ap o.preds.length cp, .slice Ac o.code.length cc] 36)) w5.heap.size (.slice Aa o.atoms.length ca) (.slice Af o.funs.length cf) (.slice Ap o.preds.length cp) (.slice Ac o.code.length cc)) := Lib.hid ⟨Box.new _ _ _, alloc_below _ _⟩
    have HB5 := Lib.hid ((B2.out.fr HF5.out (fun e => by omega)).alloc (.cells #[.slice Aa o.atoms.length ca, .slice Af o.funs.length cf, .slice Ap o.preds.length cp, .slice Ac o.code.length cc] 36))
    have HBE := Lib.hid ((HBW.out.trans (HF5.out.below (B := w.heap.size) HBW.out.size (fun k hk => by omega))).alloc (Nat.le_trans HBW.out.size HF5.out.size) (.cells #[.slice Aa o.atoms.length ca, .slice Af o.funs.length cf, .slice Ap o.preds.length cp, .slice Ac o.code.length cc] 36))
    have HO6 := Lib.hid (HO5.out.below (alloc_below w5 (.cells #[.slice Aa o.atoms.length ca, .slice Af o.funs.length cf, .slice Ap o.preds.length cp, .slice Ac o.code.length cc] 36)))
    have HR6 := Lib.hid (HR5.out.up (alloc_below w5 (.cells #[.slice Aa o.atoms.length ca, .slice Af o.funs.length cf, .slice Ap o.preds.length cp, .slice Ac o.code.length cc] 36)))
    obtain ⟨w6, hw6⟩ : ∃ w6, w5.alloc (.cells #[.slice Aa o.atoms.length ca, .slice Af o.funs.length cf, .slice Ap o.preds.length cp, .slice Ac o.code.length cc] 36) = w6 := ⟨_, rfl⟩
    rw [hw6] at KB HB5 HBE HO6 HR6 ⊢
    obtain ⟨gO, hgO⟩ : ∃ gO, w5.heap.size = gO := ⟨_, rfl⟩
    rw [hgO] at KB ⊢
    obtain ⟨q0, q1, q2, q3⟩ := KB.out.cells
    have HCK := Lib.hid (check_any o HWF.out _ _ _ _ w6 (HWN.out.below HBE.out HWN.out.lt) HO6.out)
    have HCE := Lib.hid (fun (w' : World) h => checkEnd_any l HL.out hm r'.rest.length HLE.out (.slice A l.length c) w' h)
    generalize checkOf o = ck at HCK HX
    generalize endErr l r'.rest.length = ee at HCE HX
    clear hw6 hgO
    by_cases hck : ck = 0
    case neg =>
      have hne := ne_zero hck
      have hne2 : (ck == 0) = false := by simpa using hck
      have HX2 : Hid (decodeOf l = (emptyOb, ck)) := Lib.hid (by rw [HX.out, if_pos hck])
      clear hck
      go_upto_region 8 with (go_at_call 12; refine HCK.out.mono ?_; rintro e w7 ⟨rfl, hb7⟩; have HB7 := Lib.hid (HB5.out.below hb7 HB5.out.lt); have HF7 := Lib.hid (HBE.out.trans (hb7.mono HBE.out.size)); clear hb7)
      have b0 : w7.cell? ⟨w.heap.size, 0, none⟩ = some (.slice none 0 0) := HB7.out.cell 0
      have z0 : w7.frozen? ⟨w.heap.size, 0, none⟩ = false := HB7.out.frozen 0
      have b1 : w7.cell? ⟨w.heap.size, 1, none⟩ = some (.slice none 0 0) := HB7.out.cell 1
      have z1 : w7.frozen? ⟨w.heap.size, 1, none⟩ = false := HB7.out.frozen 1
      have b2 : w7.cell? ⟨w.heap.size, 2, none⟩ = some (.slice none 0 0) := HB7.out.cell 2
      have z2 : w7.frozen? ⟨w.heap.size, 2, none⟩ = false := HB7.out.frozen 2
      have b3 : w7.cell? ⟨w.heap.size, 3, none⟩ = some (.slice none 0 0) := HB7.out.cell 3
      have z3 : w7.frozen? ⟨w.heap.size, 3, none⟩ = false := HB7.out.frozen 3
      go_wp2
      refine ret_store4 (x := .int .i64 ck) HB7.out (by intro W c0 c1 c2 c3; simp [results, Tryd.results18, go_sem, c0, c1, c2, c3]) ?_
      intro W hW hF
      exact decoded_bad HX2.out (HF7.out.trans (hF.below HF7.out.size (fun k hk => by omega)))
    case pos =>
    subst hck
    have HX2 : Hid (decodeOf l = if ee ≠ 0 then (emptyOb, ee) else (o, 0)) := Lib.hid (by rw [HX.out, if_neg (by simp)])
    obtain ⟨vr, hbr, hvr⟩ := HR6.out.box
    obtain ⟨A9, c9, rfl⟩ := hvr.form
    have HBR := Lib.hid hbr
    clear hbr hvr
    go_upto_region 6 with (go_at_call 12; refine HCK.out.mono ?_; rintro e w7 ⟨rfl, hb7⟩; have HB7 := Lib.hid (HB5.out.below hb7 HB5.out.lt); have HF7 := Lib.hid (HBE.out.trans (hb7.mono HBE.out.size)); have KB7 := Lib.hid (KB.out.up hb7); have HBR7 := Lib.hid (HBR.out.below hb7 HBR.out.lt); have HO7 := Lib.hid (HO6.out.below hb7); clear hb7)
    have x0 := HBR7.out.cell 0
    clear q0 q1 q2 q3
    by_cases hee : ee = 0
    case neg =>
      have hne := ne_zero hee
      have hne2 : (ee == 0) = false := by simpa using hee
      have HX3 : Hid (decodeOf l = (emptyOb, ee)) := Lib.hid (by rw [HX2.out, if_pos hee])
      clear hee
      go_upto_region 8 with (go_at_call 47; refine (HCE.out _ (HVB.out.below HF7.out)).mono ?_; rintro e w8 ⟨rfl, hb8⟩; have HB8 := Lib.hid (HB7.out.below hb8 HB7.out.lt); have HF8 := Lib.hid (HF7.out.trans (hb8.mono HF7.out.size)); clear hb8)
      have b0 : w8.cell? ⟨w.heap.size, 0, none⟩ = some (.slice none 0 0) := HB8.out.cell 0
      have z0 : w8.frozen? ⟨w.heap.size, 0, none⟩ = false := HB8.out.frozen 0
      have b1 : w8.cell? ⟨w.heap.size, 1, none⟩ = some (.slice none 0 0) := HB8.out.cell 1
      have z1 : w8.frozen? ⟨w.heap.size, 1, none⟩ = false := HB8.out.frozen 1
      have b2 : w8.cell? ⟨w.heap.size, 2, none⟩ = some (.slice none 0 0) := HB8.out.cell 2
      have z2 : w8.frozen? ⟨w.heap.size, 2, none⟩ = false := HB8.out.frozen 2
      have b3 : w8.cell? ⟨w.heap.size, 3, none⟩ = some (.slice none 0 0) := HB8.out.cell 3
      have z3 : w8.frozen? ⟨w.heap.size, 3, none⟩ = false := HB8.out.frozen 3
      go_wp2
      refine ret_store4 (x := .int .i64 ee) HB8.out (by intro W c0 c1 c2 c3; simp [results, Tryd.results18, go_sem, c0, c1, c2, c3]) ?_
      intro W hW hF
      exact decoded_bad HX3.out (HF8.out.trans (hF.below HF8.out.size (fun k hk => by omega)))
    case pos =>
    subst hee
    have HX3 : Hid (decodeOf l = (o, 0)) := Lib.hid (by rw [HX2.out, if_neg (by simp)])
    go_upto_region 9 with (go_at_call 47; refine (HCE.out _ (HVB.out.below HF7.out)).mono ?_; rintro e w8 ⟨rfl, hb8⟩; have HB8 := Lib.hid (HB7.out.below hb8 HB7.out.lt); have HF8 := Lib.hid (HF7.out.trans (hb8.mono HF7.out.size)); have KB8 := Lib.hid (KB7.out.up hb8); have HO8 := Lib.hid (HO7.out.below hb8); clear hb8)
    have b0 : w8.cell? ⟨w.heap.size, 0, none⟩ = some (.slice none 0 0) := HB8.out.cell 0
    have z0 : w8.frozen? ⟨w.heap.size, 0, none⟩ = false := HB8.out.frozen 0
    have b1 : w8.cell? ⟨w.heap.size, 1, none⟩ = some (.slice none 0 0) := HB8.out.cell 1
    have z1 : w8.frozen? ⟨w.heap.size, 1, none⟩ = false := HB8.out.frozen 1
    have b2 : w8.cell? ⟨w.heap.size, 2, none⟩ = some (.slice none 0 0) := HB8.out.cell 2
    have z2 : w8.frozen? ⟨w.heap.size, 2, none⟩ = false := HB8.out.frozen 2
    have b3 : w8.cell? ⟨w.heap.size, 3, none⟩ = some (.slice none 0 0) := HB8.out.cell 3
    have z3 : w8.frozen? ⟨w.heap.size, 3, none⟩ = false := HB8.out.frozen 3
    obtain ⟨q0, q1, q2, q3⟩ := KB8.out.cells
    clear x0
    go_wp2
    refine ret_store4 (x := .int .i64 0) HB8.out (by intro W c0 c1 c2 c3; simp [results, Tryd.results18, go_sem, c0, c1, c2, c3]) ?_
    intro W hW hF
    refine ⟨_, _, _, _, by rw [HX3.out], ?_, HF8.out.trans (hF.below HF8.out.size (fun k hk => by omega))⟩
    rw [HX3.out]
    have hlt : w.heap.size < w1.heap.size := B2.out.lt
    refine ⟨CellsAt.fr HO8.out.atoms hF ?_, CellsAt.fr HO8.out.funs hF ?_, CellsAt.fr HO8.out.preds hF ?_, CellsAt.fr HO8.out.code hF ?_⟩ <;> intro k hk e <;> have := HNW.out _ (by simp) k hk <;> omega

end Go.Proofs.YtfknoecgcoapcaaDoor
