/-
  4 texts in one (AsmO AsmQ AsmPA LinkM). Conditions: those of each theorem.
-/
import Derived.Test.YtclkdlegogjnbaaGreatDoorR21
import Derived.Test.YtclkdlegogjnbaaGreatDoorR10
namespace Go.Proofs.YtclkdlegogjnbaaGreatDoor
open Go Go.RowKit Go.WideShapes Go.ChangeShapes
set_option linter.unusedVariables false
set_option linter.unusedSimpArgs false
theorem flat_ent : ∀ (l : List (ByteArray × Int × Int)) (i : Nat) (hi : i < l.length), (l.flatMap predC)[i * 3 + 2]? = some (.int .i64 l[i].2.2)
 | [], i, hi => by simp at hi
 | a :: l, 0, hi => rfl
 | a :: l, i + 1, hi => by
  have ih := flat_ent l i (by simpa using hi)
  rw [List.flatMap_cons, List.getElem_cons_succ, ← ih, show (i + 1) * 3 + 2 = (predC a).length + (i * 3 + 2) by simp [predC]; omega]
  rw [List.getElem?_append_right (by omega), Nat.add_sub_cancel_left]
theorem flat_set_ent : ∀ (l : List (ByteArray × Int × Int)) (i : Nat) (x : Int) (hi : i < l.length), (l.flatMap predC).set (i * 3 + 2) (.int .i64 x) = (l.set i (l[i].1, l[i].2.1, x)).flatMap predC
 | [], i, x, hi => by simp at hi
 | a :: l, 0, x, hi => rfl
 | a :: l, i + 1, x, hi => by
  have ih := flat_set_ent l i x (by simpa using hi)
  rw [List.set_cons_succ, List.flatMap_cons, List.flatMap_cons, List.getElem_cons_succ, ← ih, show (i + 1) * 3 + 2 = (i * 3 + 2) + 3 by omega]
  simp [predC]
def entAt (s : St) (i : Nat) (f : ByteArray × Int) (x : Int) : St := { s with ob := { s.ob with preds := s.ob.preds.set i (f.1, f.2, x) } }
theorem Mk.pred_cell {w0 w : World} {g M gp cp : Nat} {va vf vc vq : Value} {s : St} (h : Mk w0 w g M va vf (.slice (some ⟨gp, 0, none⟩) s.ob.preds.length cp) vc vq s) (i : Nat) (hi : i < s.ob.preds.length) :
  w.cell? ⟨gp, i * 3 + 2, none⟩ = some (.int .i64 s.ob.preds[i].2.2) ∧ w.frozen? ⟨gp, i * 3 + 2, none⟩ = false := by
 have hc := h.rp.cells (g := gp) rfl (i * 3 + 2) _ (flat_ent s.ob.preds i hi)
 rw [add_plain, Nat.zero_add] at hc
 refine ⟨hc, ?_⟩
 rcases h.rp.2 with ⟨h0, _⟩ | ⟨g', cap, cur, h1, _, hh, _⟩
 ·simp at h0
 ·injection h1 with h1 _ _
  injection h1 with h1
  injection h1 with h1
  subst h1
  exact frozen_of_row w gp (i * 3 + 2) cur _ hh
theorem Mk.pred_set {w0 w : World} {g M gp cp : Nat} {va vf vc vq : Value} {s : St} (h : Mk w0 w g M va vf (.slice (some ⟨gp, 0, none⟩) s.ob.preds.length cp) vc vq s) (i : Nat) (hi : i < s.ob.preds.length) (x : Int) :
  Mk w0 (w.setCell ⟨gp, i * 3 + 2, none⟩ (.int .i64 x)) g M va vf (.slice (some ⟨gp, 0, none⟩) s.ob.preds.length cp) vc vq (entAt s i (s.ob.preds[i].1, s.ob.preds[i].2.1) x) := by
 have hgp := (own_ge h.rp (b := gp) rfl).1
 refine ⟨h.box.far (p := ⟨gp, i * 3 + 2, none⟩) (fun e => own_ne_box h.rp h.box (by decide) gp rfl e.symm) _, own_set_far h.ra (p := ⟨gp, i * 3 + 2, none⟩) (fun k hk e => own_ne_own h.ra h.rp (by decide) k hk (by rw [e]; rfl)) _,
  own_set_far h.rf (p := ⟨gp, i * 3 + 2, none⟩) (fun k hk e => own_ne_own h.rf h.rp (by decide) k hk (by rw [e]; rfl)) _, ?_, own_set_far h.rc (p := ⟨gp, i * 3 + 2, none⟩) (fun k hk e => own_ne_own h.rc h.rp (by decide) k hk (by rw [e]; rfl)) _,
  own_set_far h.rq (p := ⟨gp, i * 3 + 2, none⟩) (fun k hk e => own_ne_own h.rq h.rp (by decide) k hk (by rw [e]; rfl)) _,
  h.rm.fr (S := fun k => k = gp) ((Fr.refl (fun k => k = gp) w).setCell (p := ⟨gp, i * 3 + 2, none⟩) (.inl rfl) _) (fun e => h.rm.ne_own h.rp gp rfl e.symm), h.below.setCell (p := ⟨gp, i * 3 + 2, none⟩) hgp _, h.lt⟩
 show World.ownsRow _ _ _ _ _ (s.ob.preds.set i _).length ((s.ob.preds.set i _).flatMap predC)
 rw [List.length_set, ← flat_set_ent s.ob.preds i x hi]
 exact (World.ownsRow.stored h.rp _ _).1
theorem own_some {w : World} {base : Nat} {e : TypeId} {size n : Nat} {v : Value} {xs : List Value} (h : w.ownsRow base e size v n xs) (hn : 0 < n) : ∃ gp cp, v = .slice (some ⟨gp, 0, none⟩) n cp := by
 rcases h.2 with ⟨_, rfl⟩ | ⟨g, cap, cur, rfl, _⟩
 ·omega
 ·exact ⟨_, _, rfl⟩
theorem findFrom_at : ∀ (x : ByteArray) (n : Int) (k : Nat) (l : List (ByteArray × Int × Int)), 0 ≤ findFrom x n k l → ∃ i, ∃ h : i < l.length, findFrom x n k l = (k : Int) + (i : Int) ∧ l[i].1 = x ∧ l[i].2.1 = n
 | x, n, k, [], h => by simp [findFrom] at h
 | x, n, k, p :: l, h => by
  unfold findFrom at h ⊢
  split
  ·rename_i hc
   exact ⟨0, by simp, by simp, by simpa using hc⟩
  ·rename_i hc
   rw [if_neg hc] at h
   obtain ⟨i, hi, h1, h2⟩ := findFrom_at x n (k + 1) l h
   exact ⟨i + 1, by simpa using hi, by rw [h1]; push_cast; omega, by simpa using h2⟩
theorem predStep_at (o : Ob) (f : ByteArray × Int) : ∃ i, ∃ h : i < (predStep o f).2.preds.length, (predStep o f).1 = (i : Int) ∧ (predStep o f).2.preds[i].1 = f.1 ∧ (predStep o f).2.preds[i].2.1 = f.2 := by
 unfold predStep
 split
 ·exact ⟨o.preds.length, by simp, rfl, by simp, by simp⟩
 ·rename_i h
  obtain ⟨i, hi, h1, h2⟩ := findFrom_at f.1 f.2 0 o.preds (by omega)
  exact ⟨i, hi, by rw [h1]; omega, h2⟩
theorem predStep_code (o : Ob) (f : ByteArray × Int) : (predStep o f).2.code = o.code := by
 unfold predStep
 split <;> rfl
theorem prefix_step {l : List UInt8} {n : Int} {s : St} (h : Lib.hasPrefix l predWord = true) : lineStep n l s = predLine n (Lib.trimPrefix l predWord) s := by
 have h2 : predWord.isPrefixOf l = true := h
 have h3 : Lib.trimPrefix l predWord = l.drop 5 := by
  unfold Lib.trimPrefix
  rw [if_pos h]
  rfl
 unfold lineStep
 rw [if_pos h2, h3]
theorem label_step {l : List UInt8} {n : Int} {s : St} (h : Lib.hasPrefix l predWord = false) (h2 : Lib.hasPrefix l [64] = true) : lineStep n l s = labLine l s := by
 have h3 : ¬ predWord.isPrefixOf l = true := by
  have : predWord.isPrefixOf l = false := h
  simp [this]
 unfold lineStep
 rw [if_neg h3]
 cases l with
 | nil => simp [Lib.hasPrefix] at h2
 | cons c d =>
  have hc : c = 64 := by
   simp [Lib.hasPrefix] at h2
   exact h2.symm
  subst hc
  rfl
theorem instr_step {l : List UInt8} {n : Int} {s : St} (h : Lib.hasPrefix l predWord = false) (h2 : Lib.hasPrefix l [64] = false) : lineStep n l s = instrLine n l s := by
 have h3 : ¬ predWord.isPrefixOf l = true := by
  have : predWord.isPrefixOf l = false := h
  simp [this]
 unfold lineStep
 rw [if_neg h3]
 split
 ·simp [Lib.hasPrefix] at h2
 ·rfl
def PredKeeps : Prop := ∀ (w0 : World) (g M : Nat) (va vf vp vc vq : Value) (s : St) (n : Int) (x : ByteArray), x.size ≤ 10000 → (s.ob.atoms.length ≤ 900000 ∧ s.ob.funs.length ≤ 900000 ∧ s.ob.preds.length ≤ 900000 ∧ s.ob.code.length ≤ 900000 ∧ s.pts.length ≤ 900000) → ∀ (B : Nat), LaidC B w0 → ∀ (w : World), Mk w0 w g M va vf vp vc vq s →
 Calls Tryz.prog 75 #[.pointer (some ⟨g, 0, none⟩), .int .i64 n, .string x] w (LineW w0 g M (predLine n x.data.toList s))
set_option maxRecDepth 100000 in
set_option maxHeartbeats 8000000 in
theorem take_any (HPK : PredKeeps) (w0 : World) (g M : Nat) (va vf vp vc vq : Value) (s : St) (n : Int) (x : ByteArray) (hx : x.size ≤ 10000) (hl : s.ob.atoms.length ≤ 900000 ∧ s.ob.funs.length ≤ 900000 ∧ s.ob.preds.length ≤ 900000 ∧ s.ob.code.length ≤ 900000 ∧ s.pts.length ≤ 900000) (hla : s.labs.length ≤ 1000000) {B : Nat} (hp : LaidC B w0) (w : World) (hk : Mk w0 w g M va vf vp vc vq s) :
  Calls Tryz.prog 47 #[.pointer (some ⟨g, 0, none⟩), .int .i64 n, .string x] w (LineW w0 g M (lineStep n x.data.toList s)) := by
 have HK := Lib.hid hk
 have HC := Lib.hid (fun w => Tryz.strings_CutPrefix x ⟨#[112, 114, 101, 100, 32]⟩ w)
 have HH := Lib.hid (fun w => Tryz.strings_HasPrefix x ⟨#[64]⟩ w)
 have HX := Lib.hid hx
 have HL := Lib.hid hl
 have HLA := Lib.hid hla
 have HP := Lib.hid hp
 obtain ⟨r, hr⟩ : ∃ r, lineStep n x.data.toList s = r := ⟨_, rfl⟩
 rw [hr]
 cases h : Lib.hasPrefix x.data.toList predWord with
 | true =>
  have h' : Lib.hasPrefix x.data.toList (⟨#[112, 114, 101, 100, 32]⟩ : ByteArray).data.toList = true := h
  rw [h'] at HC
  have ht : (bs (Lib.trimPrefix x.data.toList predWord)).size ≤ 10000 := by
   rw [bs_size]
   unfold Lib.trimPrefix
   have : x.data.toList.length = x.size := by rw [Array.length_toList]; rfl
   rw [if_pos h, List.length_drop]
   omega
  have HT := Lib.hid (fun W h => HPK w0 g M va vf vp vc vq s n (bs (Lib.trimPrefix x.data.toList predWord)) ht hl B hp W h)
  rw [bs_data, ← prefix_step h] at HT
  have HC2 : Hid (∀ w : World, Calls Tryz.prog 74 #[.string x, .string ⟨#[112, 114, 101, 100, 32]⟩] w fun e w' => e = .returned (.tuple #[.string (bs (Lib.trimPrefix x.data.toList predWord)), .bool true]) ∧ w' = w) := HC
  rw [hr] at HT
  clear HC h h' hr hk HH ht hx hl hla hp
  generalize bs (Lib.trimPrefix x.data.toList predWord) = t at HT HC2
  cases r with
  | error c =>
   unfold LineW at HT
   simp only at HT
   go_enter Tryz.func47, Tryz.ntmps47
   go_wp2_with (first
    | (go_at_call 74; refine (HC2.out _).mono ?_; rintro e w2 ⟨rfl, rfl⟩)
    | (go_at_call 75; refine (HT.out _ HK.out).mono ?_; rintro e w3 ⟨rfl, hb3⟩; have HB3 := Lib.hid hb3; clear hb3))
   go_ret
   exact lineW_err rfl HB3.out
  | ok s2 =>
   unfold LineW at HT
   simp only at HT
   go_enter Tryz.func47, Tryz.ntmps47
   go_wp2_with (first
    | (go_at_call 74; refine (HC2.out _).mono ?_; rintro e w2 ⟨rfl, rfl⟩)
    | (go_at_call 75; refine (HT.out _ HK.out).mono ?_; rintro e w3 ⟨va', vf', vp', vc', vq', rfl, hm3⟩; have HM3 := Lib.hid hm3; clear hm3))
   go_ret
   exact lineW_ok rfl HM3.out
 | false =>
  have h' : Lib.hasPrefix x.data.toList (⟨#[112, 114, 101, 100, 32]⟩ : ByteArray).data.toList = false := h
  rw [h'] at HC
  have HC2 : Hid (∀ w : World, Calls Tryz.prog 74 #[.string x, .string ⟨#[112, 114, 101, 100, 32]⟩] w fun e w' => e = .returned (.tuple #[.string (bs (Lib.trimPrefix x.data.toList predWord)), .bool false]) ∧ w' = w) := HC
  clear h' hk HC
  generalize bs (Lib.trimPrefix x.data.toList predWord) = t at HC2
  cases h2 : Lib.hasPrefix x.data.toList [64] with
  | true =>
   have h' : Lib.hasPrefix x.data.toList (⟨#[64]⟩ : ByteArray).data.toList = true := h2
   rw [h'] at HH
   have HT := Lib.hid (fun W h => takeLabel_any w0 g M va vf vp vc vq s x (by omega) (by omega) hp W h)
   rw [← label_step (n := n) h h2, hr] at HT
   clear h h' h2 hr hx hl hla hp
   cases r with
   | error c =>
    unfold LineW at HT
    simp only at HT
    go_enter Tryz.func47, Tryz.ntmps47
    go_wp2_with (first
     | (go_at_call 74; refine (HC2.out _).mono ?_; rintro e w2 ⟨rfl, rfl⟩)
     | (go_at_call 76; refine (HH.out _).mono ?_; rintro e w2 ⟨rfl, rfl⟩)
     | (go_at_call 77; refine (HT.out _ HK.out).mono ?_; rintro e w3 ⟨rfl, hb3⟩; have HB3 := Lib.hid hb3; clear hb3))
    go_ret
    exact lineW_err rfl HB3.out
   | ok s2 =>
    unfold LineW at HT
    simp only at HT
    go_enter Tryz.func47, Tryz.ntmps47
    go_wp2_with (first
     | (go_at_call 74; refine (HC2.out _).mono ?_; rintro e w2 ⟨rfl, rfl⟩)
     | (go_at_call 76; refine (HH.out _).mono ?_; rintro e w2 ⟨rfl, rfl⟩)
     | (go_at_call 77; refine (HT.out _ HK.out).mono ?_; rintro e w3 ⟨va', vf', vp', vc', vq', rfl, hm3⟩; have HM3 := Lib.hid hm3; clear hm3))
    go_ret
    exact lineW_ok rfl HM3.out
  | false =>
   have h' : Lib.hasPrefix x.data.toList (⟨#[64]⟩ : ByteArray).data.toList = false := h2
   rw [h'] at HH
   have HT := Lib.hid (fun W h => takeInstr_any w0 g M va vf vp vc vq s n x hx hl hp W h)
   rw [← instr_step (n := n) h h2, hr] at HT
   clear h h' h2 hr hx hl hla hp
   cases r with
   | error c =>
    unfold LineW at HT
    simp only at HT
    go_enter Tryz.func47, Tryz.ntmps47
    go_wp2_with (first
     | (go_at_call 74; refine (HC2.out _).mono ?_; rintro e w2 ⟨rfl, rfl⟩)
     | (go_at_call 76; refine (HH.out _).mono ?_; rintro e w2 ⟨rfl, rfl⟩)
     | (go_at_call 78; refine (HT.out _ HK.out).mono ?_; rintro e w3 ⟨rfl, hb3⟩; have HB3 := Lib.hid hb3; clear hb3))
    go_ret
    exact lineW_err rfl HB3.out
   | ok s2 =>
    unfold LineW at HT
    simp only at HT
    go_enter Tryz.func47, Tryz.ntmps47
    go_wp2_with (first
     | (go_at_call 74; refine (HC2.out _).mono ?_; rintro e w2 ⟨rfl, rfl⟩)
     | (go_at_call 76; refine (HH.out _).mono ?_; rintro e w2 ⟨rfl, rfl⟩)
     | (go_at_call 78; refine (HT.out _ HK.out).mono ?_; rintro e w3 ⟨va', vf', vp', vc', vq', rfl, hm3⟩; have HM3 := Lib.hid hm3; clear hm3))
    go_ret
    exact lineW_ok rfl HM3.out
end Go.Proofs.YtclkdlegogjnbaaGreatDoor

namespace Go.Proofs.YtclkdlegogjnbaaGreatDoor
open Go
set_option linter.unusedVariables false
set_option linter.unusedSimpArgs false
theorem opStep_bd {op kind : Int} {w : List UInt8} {o o' : Ob} {n : Int} (h : opStep op kind w o = some (n, o')) (hop : op = 26 → kind = 8) :
  0 ≤ n ∧ n ≤ (o.atoms.length : Int) + o.funs.length + o.preds.length + 65535 ∧ o'.atoms.length ≤ o.atoms.length + 1 ∧ o'.funs.length ≤ o.funs.length + 1 ∧ o'.preds.length ≤ o.preds.length + 1 ∧ o'.code = o.code := by
 cases hn : isNamedB kind w with
 | true =>
  rw [step_named hn] at h
  have h1 := numStep_bd h
  refine ⟨h1.1, by omega, h1.2.2.1, h1.2.2.2.1, h1.2.2.2.2, ?_⟩
  unfold numStep at h
  split at h
  ·split at h
   ·injection h with h
    injection h with _ h
    rw [← h]
   ·cases h
  ·split at h
   ·cases hf : funOf w 1 with
    | none => rw [hf] at h; cases h
    | some f =>
     rw [hf] at h
     injection h with h
     injection h with _ h
     rw [← h]
   ·split at h
    ·cases hf : funOf w 0 with
     | none => rw [hf] at h; cases h
     | some f =>
      rw [hf] at h
      injection h with h
      have h : predStep o f = (n, o') := h
      have h2 : o' = (predStep o f).2 := by rw [h]
      rw [h2, predStep_code]
    ·cases hf : labelOf w with
     | none => rw [hf] at h; cases h
     | some f =>
      rw [hf] at h
      injection h with h
      injection h with _ h
      rw [← h]
 | false =>
  rw [step_plain hn hop] at h
  cases ha : argW op kind w with
  | none => rw [ha] at h; cases h
  | some m =>
   rw [ha] at h
   injection h with h
   injection h with h1 h2
   subst h1 h2
   have := may_bd (argW_some ha).1
   exact ⟨this.1, by omega, by omega, by omega, by omega, rfl⟩
theorem opsStep_bd {op : Int} : ∀ {ks : List Int} {ws : List (List UInt8)} {o o' : Ob} {x : List Int}, opsStep op ks ws o = some (x, o') → (op = 26 → ∀ k ∈ ks, k = 8) → o.atoms.length + o.funs.length + o.preds.length + 3 * ks.length ≤ 2800000 →
  (∀ z ∈ x, 0 ≤ z ∧ z ≤ 4000000) ∧ o'.code = o.code ∧ x.length = ks.length ∧ o'.atoms.length ≤ o.atoms.length + ks.length ∧ o'.funs.length ≤ o.funs.length + ks.length ∧ o'.preds.length ≤ o.preds.length + ks.length
 | [], ws, o, o', x, h, _, _ => by
  rw [opsStep] at h
  injection h with h
  injection h with h1 h2
  subst h1 h2
  exact ⟨fun z hz => absurd hz (by simp), rfl, rfl, by simp, by simp, by simp⟩
 | k :: ks, ws, o, o', x, h, hop, hl => by
  rw [opsStep] at h
  rw [List.length_cons] at hl
  cases h1 : opStep op k (ws.headD []) o with
  | none => rw [h1] at h; cases h
  | some r =>
   obtain ⟨n, o1⟩ := r
   rw [h1] at h
   have b1 := opStep_bd h1 (fun e => hop e k (by simp))
   cases h2 : opsStep op ks ws.tail o1 with
   | none => simp only [h2] at h; cases h
   | some r2 =>
    obtain ⟨y, o2⟩ := r2
    simp only [h2] at h
    injection h with h
    injection h with h3 h4
    subst h3 h4
    obtain ⟨c1, c2, c3, c4, c5, c6⟩ := opsStep_bd h2 (fun e k hk => hop e k (by simp [hk])) (by omega)
    simp only [List.length_cons]
    refine ⟨fun z hz => ?_, by rw [c2]; exact b1.2.2.2.2.2, by omega, by omega, by omega, by omega⟩
    rcases List.mem_cons.1 hz with rfl | hz
    ·exact ⟨b1.1, by omega⟩
    ·exact c1 z hz
theorem getD_bd2 {ns : List Int} {b : Int} (hb : 0 ≤ b) (h : ∀ z ∈ ns, 0 ≤ z ∧ z ≤ b) (k : Nat) : 0 ≤ ns.getD k 0 ∧ ns.getD k 0 ≤ b := by
 rw [List.getD_eq_getElem?_getD]
 cases e : ns[k]? with
 | none => simpa using hb
 | some z => exact h z (List.mem_of_getElem? e)
theorem argOf_ins (op : Int) (x : List Int) (m : Nat) (hm : m < 4) : (argOf (insOf op x)).getD m 0 = x.getD m 0 := by
 match m, hm with
 | 0, _ => rfl
 | 1, _ => rfl
 | 2, _ => rfl
 | 3, _ => rfl
structure StB (s : St) : Prop where
 pts : ∀ p ∈ s.pts, 0 ≤ p.2.1 ∧ p.2.1 ≤ (s.ob.code.length : Int) ∧ (p.2.2 = false → p.2.1 < (s.ob.code.length : Int))
 labs : ∀ q ∈ s.labs, 0 ≤ q.2
 code : ∀ i ∈ s.ob.code, ∀ m, m < 4 → 0 ≤ (argOf i).getD m 0 ∧ (argOf i).getD m 0 ≤ 4000000
theorem StB.start : StB startSt := ⟨fun p h => absurd h (by simp [startSt]), fun p h => absurd h (by simp [startSt]), fun p h => absurd h (by simp [startSt, emptyOb])⟩
theorem line_bd {n : Int} {l : List UInt8} {s s' : St} (h : lineStep n l s = .ok s') (hb : StB s) (hl : s.ob.atoms.length + s.ob.funs.length + s.ob.preds.length ≤ 2700000) :
  StB s' ∧ s'.pts.length ≤ s.pts.length + 1 ∧ s'.labs.length ≤ s.labs.length + 1 ∧ (∀ p ∈ s'.pts, p ∈ s.pts ∨ p.1 = n) := by
 unfold lineStep at h
 split at h
 ·unfold predLine at h
  split at h
  ·cases h
  ·rename_i f hf
   split at h
   ·cases h
   ·injection h with h
    subst h
    have hc := predStep_code s.ob f
    refine ⟨⟨fun p hp => ?_, hb.labs, fun i hi => hb.code i (by rw [← hc]; exact hi)⟩, by simp, by simp, fun p hp => ?_⟩
    ·simp only [hc]
     rcases List.mem_append.1 hp with hp | hp
     ·exact hb.pts p hp
     ·rw [List.mem_singleton.1 hp]
      exact ⟨by simp, by simp, fun e => by cases e⟩
    ·rcases List.mem_append.1 hp with hp | hp
     ·exact .inl hp
     ·rw [List.mem_singleton.1 hp]
      exact .inr rfl
 ·split at h
  ·unfold labelLine at h
   split at h
   ·cases h
   ·split at h
    ·cases h
    ·injection h with h
     subst h
     refine ⟨⟨hb.pts, fun q hq => ?_, hb.code⟩, by simp, by simp, fun p hp => .inl hp⟩
     rcases List.mem_append.1 hq with hq | hq
     ·exact hb.labs q hq
     ·rw [List.mem_singleton.1 hq]
      simp
  ·unfold instrLine at h
   split at h
   ·cases h
   ·split at h
    ·cases h
    ·rename_i x o' hs
     injection h with h
     subst h
     have hfew := ops_few (namedOf (bs ((splitW l).getD 0 [])))
     obtain ⟨c1, c2, c3, c4⟩ := opsStep_bd hs (opsOf_sw _) (by omega)
     refine ⟨⟨fun p hp => ?_, hb.labs, fun i hi m hm => ?_⟩, by simp, by simp, fun p hp => ?_⟩
     ·simp only [c2, List.length_append, List.length_singleton]
      rcases List.mem_append.1 hp with hp | hp
      ·have := hb.pts p hp
       exact ⟨this.1, by omega, fun e => by have := this.2.2 e; omega⟩
      ·rw [List.mem_singleton.1 hp]
       refine ⟨?_, ?_, fun _ => ?_⟩ <;> simp only <;> omega
     ·simp only [c2] at hi
      rcases List.mem_append.1 hi with hi | hi
      ·exact hb.code i hi m hm
      ·rw [List.mem_singleton.1 hi, argOf_ins _ _ m hm]
       exact getD_bd2 (by omega) c1 m
     ·rcases List.mem_append.1 hp with hp | hp
      ·exact .inl hp
      ·rw [List.mem_singleton.1 hp]
       exact .inr rfl
theorem big_bd {o : Ob} (h : bigO o = false) : o.atoms.length ≤ 256 ∧ o.funs.length ≤ 256 ∧ o.preds.length ≤ 64 ∧ o.code.length ≤ 1024 := by
 unfold bigO bigB at h
 simp at h
 omega
theorem placeArgs_bd {labs : List (Int × Int)} (hlab : ∀ q ∈ labs, 0 ≤ q.2) {m : Nat} (hm : m ≤ 2000) : ∀ {ks xs l : List Int}, placeArgs labs m ks xs = some l → (∀ z ∈ xs, 0 ≤ z ∧ z ≤ 4000000) → ∀ z ∈ l, 0 ≤ z ∧ z ≤ 4000000
 | [], xs, l, h, hx => by
  rw [placeArgs] at h
  injection h with h
  subst h
  exact hx
 | k :: ks, xs, l, h, hx => by
  have hh : 0 ≤ xs.headD 0 ∧ xs.headD 0 ≤ 4000000 := by
   cases xs with
   | nil => simp
   | cons a t => exact hx a (by simp)
  have ht : ∀ z ∈ xs.tail, 0 ≤ z ∧ z ≤ 4000000 := fun z hz => hx z (List.mem_of_mem_tail hz)
  rw [placeArgs] at h
  split at h
  ·split at h
   ·cases h
   ·rename_i x hx2
    split at h
    ·cases h
    ·cases h2 : placeArgs labs m ks xs.tail with
     | none => rw [h2] at h; cases h
     | some y =>
      rw [h2] at h
      injection h with h
      subst h
      have ih := placeArgs_bd hlab hm h2 ht
      intro z hz
      rcases List.mem_cons.1 hz with rfl | hz
      ·refine ⟨?_, by omega⟩
       unfold labOf at hx2
       cases hf : labs.find? (fun p => p.1 == xs.headD 0) with
       | none => rw [hf] at hx2; cases hx2
       | some q =>
        rw [hf] at hx2
        injection hx2 with hx2
        rw [← hx2]
        exact hlab q (List.mem_of_find?_eq_some hf)
      ·exact ih z hz
  ·cases h2 : placeArgs labs m ks xs.tail with
   | none => rw [h2] at h; cases h
   | some y =>
    rw [h2] at h
    injection h with h
    subst h
    have ih := placeArgs_bd hlab hm h2 ht
    intro z hz
    rcases List.mem_cons.1 hz with rfl | hz
    ·exact hh
    ·exact ih z hz
theorem pt_bd {labs : List (Int × Int)} (hlab : ∀ q ∈ labs, 0 ≤ q.2) {o o' : Ob} {p : Int × Int × Bool} (h : ptStep labs o p = .ok o') (hm : o.code.length ≤ 2000) (hc : ∀ i ∈ o.code, ∀ m, m < 4 → 0 ≤ (argOf i).getD m 0 ∧ (argOf i).getD m 0 ≤ 4000000) :
  o'.code.length = o.code.length ∧ o'.preds = o.preds ∧ o'.atoms = o.atoms ∧ o'.funs = o.funs ∧ ∀ i ∈ o'.code, ∀ m, m < 4 → 0 ≤ (argOf i).getD m 0 ∧ (argOf i).getD m 0 ≤ 4000000 := by
 unfold ptStep at h
 split at h
 ·split at h
  ·cases h
  ·injection h with h
   subst h
   exact ⟨rfl, rfl, rfl, rfl, hc⟩
 ·split at h
  ·cases h
  ·rename_i i hi
   injection h with h
   subst h
   refine ⟨by simp, rfl, rfl, rfl, fun j hj m hm4 => ?_⟩
   rcases List.mem_or_eq_of_mem_set hj with hj | rfl
   ·exact hc j hj m hm4
   ·unfold placeIns at hi
    cases h2 : placeArgs labs o.code.length (opsOf (o.code.getD p.2.1.toNat (0, 0, 0, 0, 0)).1) (argOf (o.code.getD p.2.1.toNat (0, 0, 0, 0, 0))) with
    | none => rw [h2] at hi; cases hi
    | some y =>
     rw [h2] at hi
     injection hi with hi
     rw [← hi, argOf_ins _ _ m hm4]
     refine getD_bd2 (by omega) (placeArgs_bd hlab hm h2 ?_) m
     have hz : ∀ m, m < 4 → 0 ≤ (argOf (o.code.getD p.2.1.toNat (0, 0, 0, 0, 0))).getD m 0 ∧ (argOf (o.code.getD p.2.1.toNat (0, 0, 0, 0, 0))).getD m 0 ≤ 4000000 := by
      intro m hm4
      rw [List.getD_eq_getElem?_getD (l := o.code)]
      cases e : o.code[p.2.1.toNat]? with
      | none =>
       match m, hm4 with
       | 0, _ => decide
       | 1, _ => decide
       | 2, _ => decide
       | 3, _ => decide
      | some i => exact hc i (List.mem_of_getElem? e) m hm4
     intro z hz2
     obtain ⟨k, hk, rfl⟩ := List.getElem_of_mem hz2
     have := hz k (by simpa [argOf_len] using hk)
     rw [List.getD_eq_getElem?_getD, List.getElem?_eq_getElem hk] at this
     exact this
end Go.Proofs.YtclkdlegogjnbaaGreatDoor

namespace Go.Proofs.YtclkdlegogjnbaaGreatDoor
open Go
set_option linter.unusedVariables false
set_option linter.unusedSimpArgs false
structure GoodT (o : Ob) : Prop where
 atoms : ∀ s ∈ o.atoms, nameOk s = true
 nda : o.atoms.Nodup
 funs : ∀ f ∈ o.funs, nameOk f.1 = true ∧ 1 ≤ f.2 ∧ f.2 ≤ 8
 ndf : o.funs.Nodup
 preds : ∀ p ∈ o.preds, nameOk p.1 = true ∧ 0 ≤ p.2.1 ∧ p.2.1 ≤ 8
 ndp : (o.preds.map called).Nodup
def Grown (o o' : Ob) : Prop := o.atoms.length ≤ o'.atoms.length ∧ o.funs.length ≤ o'.funs.length ∧ o.preds.length ≤ o'.preds.length
theorem Grown.refl (o : Ob) : Grown o o := ⟨Nat.le_refl _, Nat.le_refl _, Nat.le_refl _⟩
theorem Grown.trans {o o' o'' : Ob} (h : Grown o o') (k : Grown o' o'') : Grown o o'' := ⟨Nat.le_trans h.1 k.1, Nat.le_trans h.2.1 k.2.1, Nat.le_trans h.2.2 k.2.2⟩
def goodArg (o : Ob) (op kind n : Int) : Prop :=
 (kind = 3 → 0 ≤ n ∧ n < (o.atoms.length : Int)) ∧ (kind = 4 → 0 ≤ n ∧ n < (o.funs.length : Int)) ∧ (kind = 7 → 0 ≤ n ∧ n < (o.preds.length : Int)) ∧ (kind = 8 → (0 ≤ n ∧ n ≤ 1023) ∨ (op = 26 ∧ n = 65535)) ∧ (kind ≠ 3 → kind ≠ 4 → kind ≠ 7 → kind ≠ 8 → mayB op kind n = true)
theorem goodArg.grow {o o' : Ob} {op kind n : Int} (h : goodArg o op kind n) (hg : Grown o o') : goodArg o' op kind n := by
 obtain ⟨h1, h2, h3, h4, h5⟩ := h
 obtain ⟨g1, g2, g3⟩ := hg
 exact ⟨fun e => by have := h1 e; omega, fun e => by have := h2 e; omega, fun e => by have := h3 e; omega, h4, h5⟩
theorem addTo_mem {α : Type} [DecidableEq α] {l : List α} {x y : α} (h : y ∈ addTo l x) : y ∈ l ∨ y = x := by
 unfold addTo at h
 split at h
 ·exact .inl h
 ·rcases List.mem_append.1 h with h | h
  ·exact .inl h
  ·exact .inr (List.mem_singleton.1 h)
theorem addTo_nodup {α : Type} [DecidableEq α] {l : List α} (x : α) (h : l.Nodup) : (addTo l x).Nodup := by
 unfold addTo
 split
 ·exact h
 ·rename_i hx
  rw [List.nodup_append]
  exact ⟨h, by simp, fun a ha b hb e => by rw [List.mem_singleton.1 hb] at e; subst e; exact hx ha⟩
end Go.Proofs.YtclkdlegogjnbaaGreatDoor

namespace Go.Proofs.YtclkdlegogjnbaaGreatDoor
open Go
set_option linter.unusedVariables false
set_option linter.unusedSimpArgs false
abbrev Pr := ByteArray × Int × Int
def predIn (P : List Pr) (f : ByteArray × Int) : Int × List Pr :=
 if findFrom f.1 f.2 0 P < 0 then ((P.length : Int), P ++ [(f.1, f.2, 65535)]) else (findFrom f.1 f.2 0 P, P)
def setE (P : List Pr) (i : Nat) (e : Int) : List Pr := P.modify i fun q => (q.1, q.2.1, e)
def predJ (base : Int) (P : List Pr) (p : Pr) : Option (List Pr) :=
 if p.2.2 = 65535 then some (predIn P (called p)).2
 else if ((predIn P (called p)).2.getD (predIn P (called p)).1.toNat (⟨#[]⟩, 0, 0)).2.2 ≠ 65535 then none
 else some (setE (predIn P (called p)).2 (predIn P (called p)).1.toNat (base + p.2.2))
def predsJ (base : Int) : List Pr → List Pr → Option (List Pr)
 | P, [] => some P
 | P, p :: ps => match predJ base P p with
  | none => none
  | some P' => predsJ base P' ps
def opdJ (W x : Ob) (base : Int) (kind n : Int) : Int :=
 if kind = 3 then (placeOf W.atoms (x.atoms.getD n.toNat ⟨#[]⟩) : Int)
 else if kind = 4 then (placeOf W.funs (x.funs.getD n.toNat (⟨#[]⟩, 0)) : Int)
 else if kind = 7 then findFrom (x.preds.getD n.toNat (⟨#[]⟩, 0, 0)).1 (x.preds.getD n.toNat (⟨#[]⟩, 0, 0)).2.1 0 W.preds
 else if kind = 8 then (if n ≠ 65535 then base + n else n)
 else n
def argsJ (f : Int → Int → Int) : List Int → List Int → List Int
 | [], xs => xs
 | k :: ks, xs => f k (xs.headD 0) :: argsJ f ks xs.tail
def insJ (W x : Ob) (base : Int) (i : Ins) : Ins := insOf i.1 (argsJ (opdJ W x base) (opsOf i.1) (argOf i))
def joinJ (o x : Ob) : Option Ob :=
 match predsJ (o.code.length : Int) o.preds x.preds with
 | none => none
 | some P => some ⟨x.atoms.foldl addTo o.atoms, x.funs.foldl addTo o.funs, P, o.code ++ x.code.map (insJ ⟨x.atoms.foldl addTo o.atoms, x.funs.foldl addTo o.funs, P, []⟩ x (o.code.length : Int))⟩
def foldJ : Nat → Ob → List Ob → Except Nat Ob
 | _, o, [] => .ok o
 | n, o, x :: l => match joinJ o x with
  | none => .error n
  | some o' => foldJ (n + 1) o' l
def homeOf (l : List Ob) (f : ByteArray × Int) : Int :=
 if (l.findIdx fun x => decide (0 ≤ findFrom f.1 f.2 0 x.preds)) < l.length then ((l.findIdx fun x => decide (0 ≤ findFrom f.1 f.2 0 x.preds) : Nat) : Int) else -1
def unknownJ (l : List Ob) : List Pr → Option Int
 | [] => none
 | p :: ps => if p.2.2 = 65535 ∧ 0 ≤ homeOf l (called p) then some (homeOf l (called p)) else unknownJ l ps
def firstErr : Nat → List Ob → Option (Int × Nat)
 | _, [] => none
 | n, x :: l => if checkOf x = 0 then firstErr (n + 1) l else some (checkOf x, n)
def linkOf (l : List Ob) : Ob × Int × Int :=
 match firstErr 0 l with
 | some (e, n) => (emptyOb, e, n)
 | none => match foldJ 0 emptyOb l with
  | .error n => (emptyOb, 11, n)
  | .ok o => match unknownJ l o.preds with
   | some k => (emptyOb, 12, k)
   | none => if bigO o = true then (emptyOb, 2, -1) else (o, 0, -1)
structure Lk where
 atoms : List ByteArray
 funs : List (ByteArray × Int)
 preds : List Pr
 homes : List Int
 begun : List Bool
 n : Int
def startLk : Lk := ⟨[], [], [], [], [], 0⟩
def predK (n : Int) (s : Lk) (p : Pr) : Option Lk :=
 let r := predIn s.preds (called p)
 let h := if s.homes.length < r.2.length then s.homes ++ [n] else s.homes
 let b := if s.homes.length < r.2.length then s.begun ++ [false] else s.begun
 if p.2.2 = 65535 then some { s with preds := r.2, homes := h, begun := b }
 else if b.getD r.1.toNat false = true then none
 else some { s with preds := r.2, homes := h, begun := b.set r.1.toNat true }
def predsK (n : Int) : Lk → List Pr → Option Lk
 | s, [] => some s
 | s, p :: ps => match predK n s p with
  | none => none
  | some s' => predsK n s' ps
def enterK (n : Int) (s : Lk) (x : Ob) : Option Lk :=
 predsK n { s with atoms := x.atoms.foldl addTo s.atoms, funs := x.funs.foldl addTo s.funs, n := s.n + x.code.length } x.preds
def foldK : Nat → Lk → List Ob → Except Nat Lk
 | _, s, [] => .ok s
 | n, s, x :: l => match enterK n s x with
  | none => .error n
  | some s' => foldK (n + 1) s' l
def unknownK (s : Lk) : Int := if s.begun.findIdx (fun b => !b) < s.begun.length then s.homes.getD (s.begun.findIdx fun b => !b) 0 else -1
def layP (base : Int) (P : List Pr) (p : Pr) : List Pr := if p.2.2 = 65535 then P else setE P (findFrom p.1 p.2.1 0 P).toNat (base + p.2.2)
def layK (o x : Ob) : Ob := { o with preds := x.preds.foldl (layP (o.code.length : Int)) o.preds, code := o.code ++ x.code.map (insJ ⟨o.atoms, o.funs, o.preds, []⟩ x (o.code.length : Int)) }
def linkP (l : List Ob) : Ob × Int × Int :=
 match firstErr 0 l with
 | some (e, n) => (emptyOb, e, n)
 | none => match foldK 0 startLk l with
  | .error n => (emptyOb, 11, n)
  | .ok s =>
   if 0 ≤ unknownK s then (emptyOb, 12, unknownK s)
   else if decide (256 < s.atoms.length ∨ 256 < s.funs.length ∨ 64 < s.preds.length ∨ 1024 < s.n) = true then (emptyOb, 2, -1)
   else (l.foldl layK ⟨s.atoms, s.funs, s.preds, []⟩, 0, -1)
/-! Tables. -/
theorem findFrom_called : ∀ (x : ByteArray) (n : Int) (k : Nat) (P Q : List Pr), P.map called = Q.map called → findFrom x n k P = findFrom x n k Q
 | x, n, k, [], [], _ => rfl
 | x, n, k, [], q :: Q, h => by simp at h
 | x, n, k, p :: P, [], h => by simp at h
 | x, n, k, p :: P, q :: Q, h => by
  simp only [List.map_cons, List.cons.injEq] at h
  have h1 := h.1
  unfold called at h1
  injection h1 with a b
  unfold findFrom
  rw [a, b, findFrom_called x n (k + 1) P Q h.2]
theorem findFrom_app : ∀ (x : ByteArray) (n : Int) (k : Nat) (P Q : List Pr), 0 ≤ findFrom x n k P → findFrom x n k (P ++ Q) = findFrom x n k P
 | x, n, k, [], Q, h => by simp [findFrom] at h
 | x, n, k, p :: P, Q, h => by
  rw [List.cons_append]
  unfold findFrom at h ⊢
  split
  ·rfl
  ·rename_i hc
   rw [if_neg hc] at h
   exact findFrom_app x n (k + 1) P Q h
theorem findFrom_mem : ∀ (x : ByteArray) (n : Int) (k : Nat) (P : List Pr), (x, n) ∈ P.map called → 0 ≤ findFrom x n k P
 | x, n, k, [], h => by simp at h
 | x, n, k, p :: P, h => by
  unfold findFrom
  split
  ·omega
  ·rename_i hc
   rw [List.map_cons, List.mem_cons] at h
   rcases h with h | h
   ·unfold called at h
    injection h with a b
    exact absurd ⟨a.symm, b.symm⟩ hc
   ·exact findFrom_mem x n (k + 1) P h
theorem findFrom_miss {x : ByteArray} {n : Int} {k : Nat} {P : List Pr} (h : (x, n) ∉ P.map called) : findFrom x n k P < 0 := by
 rcases Int.lt_or_le (findFrom x n k P) 0 with h1 | h1
 ·exact h1
 ·exfalso
  induction P generalizing k with
  | nil => simp [findFrom] at h1
  | cons p P ih =>
   rw [List.map_cons, List.mem_cons, not_or] at h
   unfold findFrom at h1
   split at h1
   ·rename_i hc
    exact h.1 (by unfold called; rw [hc.1, hc.2])
   ·exact ih h.2 h1
theorem predIn_at (P : List Pr) (f : ByteArray × Int) :
  (f ∈ P.map called ∧ predIn P f = (findFrom f.1 f.2 0 P, P) ∧ 0 ≤ findFrom f.1 f.2 0 P ∧ (findFrom f.1 f.2 0 P).toNat < P.length) ∨
  (f ∉ P.map called ∧ predIn P f = ((P.length : Int), P ++ [(f.1, f.2, 65535)])) := by
 obtain ⟨a, b⟩ := f
 by_cases h : (a, b) ∈ P.map called
 ·left
  have h0 := findFrom_mem a b 0 P h
  obtain ⟨i, hi, h1, _⟩ := findFrom_at a b 0 P h0
  refine ⟨h, ?_, h0, by simp only; omega⟩
  unfold predIn
  rw [if_neg (by simp only; omega)]
 ·right
  refine ⟨h, ?_⟩
  unfold predIn
  rw [if_pos (findFrom_miss h)]
theorem setE_called (P : List Pr) (i : Nat) (e : Int) : (setE P i e).map called = P.map called := by
 unfold setE
 apply List.ext_getElem
 ·simp
 ·intro k h1 h2
  simp only [List.getElem_map, List.getElem_modify]
  split <;> rfl
theorem setE_len (P : List Pr) (i : Nat) (e : Int) : (setE P i e).length = P.length := by unfold setE; simp
theorem place_app {α : Type} [DecidableEq α] {l : List α} (m : List α) {x : α} (h : x ∈ l) : placeOf (l ++ m) x = placeOf l x := by
 unfold placeOf
 rw [List.findIdx_append, if_pos (List.findIdx_lt_length_of_exists ⟨x, h, by simp⟩)]
theorem addTo_grow {α : Type} [DecidableEq α] (l : List α) (x : α) : ∃ m, addTo l x = l ++ m ∧ x ∈ l ++ m := by
 unfold addTo
 by_cases h : x ∈ l
 ·rw [if_pos h]
  exact ⟨[], by simp, by simpa using h⟩
 ·rw [if_neg h]
  exact ⟨[x], rfl, by simp⟩
theorem addAll_grow {α : Type} [DecidableEq α] : ∀ (xs l : List α), ∃ m, xs.foldl addTo l = l ++ m ∧ ∀ x ∈ xs, x ∈ l ++ m
 | [], l => ⟨[], by simp, by simp⟩
 | x :: xs, l => by
  obtain ⟨m, h1, h2⟩ := addTo_grow l x
  obtain ⟨m', h3, h4⟩ := addAll_grow xs (l ++ m)
  rw [List.foldl_cons, h1, h3]
  refine ⟨m ++ m', by simp, fun y hy => ?_⟩
  rw [← List.append_assoc]
  rcases List.mem_cons.1 hy with rfl | hy
  ·exact List.mem_append_left _ h2
  ·exact h4 y hy
end Go.Proofs.YtclkdlegogjnbaaGreatDoor
