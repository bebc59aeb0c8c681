/-
  4 texts in one (LinkO AsmPB AsmR AsmPD). Conditions: those of each theorem.
-/
import Derived.Test.YtclkdlegogjnbaaGreatDoorQ24
import Derived.Test.YtclkdlegogjnbaaGreatDoorQ23
namespace Go.Proofs.YtclkdlegogjnbaaGreatDoor
open Go
set_option linter.unusedVariables false
set_option linter.unusedSimpArgs false

theorem predIn_grow (P : List Pr) (f : ByteArray × Int) : ∃ Q, (predIn P f).2.map called = P.map called ++ Q := by
  rcases predIn_at P f with ⟨_, he, _⟩ | ⟨_, he⟩
  · rw [he]
    exact ⟨[], by simp⟩
  · rw [he]
    exact ⟨[f], by simp [called]⟩
theorem predJ_called {base : Int} {P P1 : List Pr} {p : Pr} (h : predJ base P p = some P1) : P1.map called = (predIn P (called p)).2.map called := by
  unfold predJ at h
  split at h
  · injection h with h
    rw [h]
  · split at h
    · cases h
    · injection h with h
      rw [← h, setE_called]
theorem predsJ_grow {base : Int} : ∀ (ps : List Pr) (P P' : List Pr), predsJ base P ps = some P' → ∃ Q, P'.map called = P.map called ++ Q
  | [], P, P', h => by
    unfold predsJ at h
    injection h with h
    exact ⟨[], by simp [h]⟩
  | p :: ps, P, P', h => by
    unfold predsJ at h
    cases h1 : predJ base P p with
    | none => rw [h1] at h; cases h
    | some P1 =>
      rw [h1] at h
      obtain ⟨Q, hQ⟩ := predsJ_grow ps P1 P' h
      obtain ⟨Q1, hQ1⟩ := predIn_grow P (called p)
      refine ⟨Q1 ++ Q, ?_⟩
      rw [hQ, predJ_called h1, hQ1, List.append_assoc]
theorem findFrom_new {f : ByteArray × Int} (r : Pr) (hr : called r = f) (R : List Pr) : ∀ (P : List Pr) (k : Nat), f ∉ P.map called → findFrom f.1 f.2 k (P ++ r :: R) = (k : Int) + (P.length : Int)
  | [], k, _ => by
    subst hr
    simp [findFrom, called]
  | p :: P, k, h => by
    rw [List.map_cons, List.mem_cons, not_or] at h
    rw [List.cons_append]
    unfold findFrom
    rw [if_neg (fun hc => h.1 (by unfold called; rw [hc.1, hc.2])), findFrom_new r hr R P (k + 1) h.2, List.length_cons]
    push_cast
    omega
theorem setE_app : ∀ (P : List Pr) (k : Nat) (R : List Pr) (e : Int), k < P.length → setE (P ++ R) k e = setE P k e ++ R
  | [], k, R, e, h => by simp at h
  | p :: P, 0, R, e, h => by simp [setE]
  | p :: P, k + 1, R, e, h => by
    have ih := setE_app P k R e (by simpa using h)
    unfold setE at ih ⊢
    simp only [List.cons_append, List.modify_succ_cons]
    rw [ih]
theorem lay_pred {base : Int} {P P1 R : List Pr} {p : Pr} (h : predJ base P p = some P1) (hR : ∀ r ∈ R, r.2.2 = 65535) (hq : ∃ Q, (P ++ R).map called = P1.map called ++ Q) :
    ∃ R1, layP base (P ++ R) p = P1 ++ R1 ∧ (∀ r ∈ R1, r.2.2 = 65535) ∧ (P1 ++ R1).map called = (P ++ R).map called := by
  have hc := predJ_called h
  unfold predJ at h
  unfold layP
  rcases predIn_at P (called p) with ⟨hm, he, h0, h1⟩ | ⟨hm, he⟩
  · rw [he] at h
    have hff : findFrom p.1 p.2.1 0 (P ++ R) = findFrom p.1 p.2.1 0 P := findFrom_app p.1 p.2.1 0 P R h0
    by_cases hp : p.2.2 = 65535
    · rw [if_pos hp] at h ⊢
      injection h with h
      subst h
      exact ⟨R, rfl, hR, rfl⟩
    · rw [if_neg hp] at h ⊢
      split at h
      · cases h
      · injection h with h
        refine ⟨R, ?_, hR, ?_⟩
        · rw [hff, ← h]
          exact setE_app P _ R _ h1
        · rw [← h, List.map_append, setE_called, List.map_append]
  · rw [he] at h hc
    obtain ⟨Q, hQ⟩ := hq
    rw [hc, List.map_append, List.map_append, List.append_assoc] at hQ
    have hQ2 := List.append_cancel_left hQ
    cases R with
    | nil => simp at hQ2
    | cons r R1 =>
      rw [List.map_cons, List.map_cons, List.map_nil, List.singleton_append] at hQ2
      injection hQ2 with hr _
      have hr2 := hR r (by simp)
      have hre : r = ((called p).1, (called p).2, (65535 : Int)) := by
        obtain ⟨a, b, c⟩ := r
        simp only [called] at hr hr2 ⊢
        injection hr with x1 x2
        rw [x1, x2, hr2]
      have e1 : P ++ r :: R1 = (P ++ [((called p).1, (called p).2, (65535 : Int))]) ++ R1 := by rw [← hre]; simp
      by_cases hp : p.2.2 = 65535
      · rw [if_pos hp] at h ⊢
        injection h with h
        simp only at h
        exact ⟨R1, by rw [e1, h], fun x hx => hR x (by simp [hx]), by rw [← h, e1]⟩
      · rw [if_neg hp] at h ⊢
        split at h
        · cases h
        · injection h with h
          have hff : findFrom p.1 p.2.1 0 (P ++ r :: R1) = (P.length : Int) := by
            have := findFrom_new (f := called p) r hr R1 P 0 hm
            simpa [called] using this
          refine ⟨R1, ?_, fun x hx => hR x (by simp [hx]), ?_⟩
          · rw [hff, e1, setE_app _ _ R1 _ (by simp), ← h]
          · rw [← h, e1, List.map_append, setE_called, ← List.map_append]
theorem lay_preds {base : Int} : ∀ (ps P R P' : List Pr), predsJ base P ps = some P' → (∀ r ∈ R, r.2.2 = 65535) → (∃ Q, (P ++ R).map called = P'.map called ++ Q) →
    ∃ R', ps.foldl (layP base) (P ++ R) = P' ++ R' ∧ (∀ r ∈ R', r.2.2 = 65535) ∧ (P' ++ R').map called = (P ++ R).map called
  | [], P, R, P', h, hR, _ => by
    unfold predsJ at h
    injection h with h
    subst h
    exact ⟨R, rfl, hR, rfl⟩
  | p :: ps, P, R, P', h, hR, hq => by
    unfold predsJ at h
    cases h1 : predJ base P p with
    | none => rw [h1] at h; cases h
    | some P1 =>
      rw [h1] at h
      obtain ⟨Q, hQ⟩ := hq
      obtain ⟨Q1, hQ1⟩ := predsJ_grow ps P1 P' h
      obtain ⟨R1, e1, e2, e3⟩ := lay_pred h1 hR ⟨Q1 ++ Q, by rw [hQ, hQ1, List.append_assoc]⟩
      obtain ⟨R2, f1, f2, f3⟩ := lay_preds ps P1 R1 P' h e2 ⟨Q, by rw [e3, hQ]⟩
      exact ⟨R2, by rw [List.foldl_cons, e1, f1], f2, f3.trans e3⟩
theorem argsJ_same {f g : Int → Int → Int} : ∀ (ks xs : List Int), (∀ j, j < ks.length → f (ks.getD j 0) (xs.getD j 0) = g (ks.getD j 0) (xs.getD j 0)) → argsJ f ks xs = argsJ g ks xs
  | [], xs, _ => rfl
  | k :: ks, xs, h => by
    unfold argsJ
    have h0 := h 0 (by simp)
    have e0 : xs.getD 0 0 = xs.headD 0 := by cases xs <;> rfl
    rw [e0] at h0
    have et : ∀ j, xs.tail.getD j 0 = xs.getD (j + 1) 0 := fun j => by cases xs <;> rfl
    have ih := argsJ_same ks xs.tail (f := f) (g := g) (fun j hj => by
      have h1 := h (j + 1) (by simpa using hj)
      rw [et]
      exact h1)
    rw [ih, show f k (xs.headD 0) = g k (xs.headD 0) from h0]
theorem opdJ_same {W1 W2 x : Ob} (base : Int) (ha : ∀ s ∈ x.atoms, placeOf W2.atoms s = placeOf W1.atoms s) (hf : ∀ s ∈ x.funs, placeOf W2.funs s = placeOf W1.funs s)
    (hp : ∀ p ∈ x.preds, findFrom p.1 p.2.1 0 W2.preds = findFrom p.1 p.2.1 0 W1.preds) (kind n : Int) (h : thereB x.atoms.length x.funs.length x.preds.length x.code.length kind n = true) :
    opdJ W2 x base kind n = opdJ W1 x base kind n := by
  unfold opdJ
  unfold thereB at h
  split
  · rename_i hk
    rw [if_pos hk] at h
    have h := of_decide_eq_true h
    rw [ha]
    rw [List.getD_eq_getElem?_getD, List.getElem?_eq_getElem (by omega)]
    exact List.getElem_mem _
  · rename_i hk
    rw [if_neg hk] at h
    split
    · rename_i hk2
      rw [if_pos hk2] at h
      have h := of_decide_eq_true h
      rw [hf]
      rw [List.getD_eq_getElem?_getD, List.getElem?_eq_getElem (by omega)]
      exact List.getElem_mem _
    · rename_i hk2
      rw [if_neg hk2] at h
      split
      · rename_i hk3
        rw [if_pos hk3] at h
        have h := of_decide_eq_true h
        rw [hp]
        rw [List.getD_eq_getElem?_getD, List.getElem?_eq_getElem (by omega)]
        exact List.getElem_mem _
      · rfl
theorem insJ_same {W1 W2 x : Ob} (base : Int) (ha : ∀ s ∈ x.atoms, placeOf W2.atoms s = placeOf W1.atoms s) (hf : ∀ s ∈ x.funs, placeOf W2.funs s = placeOf W1.funs s)
    (hp : ∀ p ∈ x.preds, findFrom p.1 p.2.1 0 W2.preds = findFrom p.1 p.2.1 0 W1.preds) {i : Ins} (h : insErr x.atoms.length x.funs.length x.preds.length x.code.length i = 0) : insJ W2 x base i = insJ W1 x base i := by
  unfold insJ
  rw [argsJ_same (f := opdJ W2 x base) (g := opdJ W1 x base) _ _ (fun j hj => opdJ_same base ha hf hp _ _ (by
    have h4 := (insErr_ne h).2.2.2
    rw [List.all_eq_true] at h4
    exact h4 j (by simpa using hj)))]
theorem joinJ_grow {o x o' : Ob} (h : joinJ o x = some o') : (∃ m, o'.atoms = o.atoms ++ m) ∧ (∃ m, o'.funs = o.funs ++ m) ∧ (∃ m, o'.preds.map called = o.preds.map called ++ m) := by
  unfold joinJ at h
  split at h
  · cases h
  · rename_i P hP
    injection h with h
    rw [← h]
    obtain ⟨m1, h1, _⟩ := addAll_grow x.atoms o.atoms
    obtain ⟨m2, h2, _⟩ := addAll_grow x.funs o.funs
    exact ⟨⟨m1, h1⟩, ⟨m2, h2⟩, predsJ_grow _ _ _ hP⟩
theorem foldJ_grow : ∀ (l : List Ob) (n : Nat) (o F : Ob), foldJ n o l = .ok F → (∃ m, F.atoms = o.atoms ++ m) ∧ (∃ m, F.funs = o.funs ++ m) ∧ (∃ m, F.preds.map called = o.preds.map called ++ m)
  | [], n, o, F, h => by
    unfold foldJ at h
    injection h with h
    subst h
    exact ⟨⟨[], by simp⟩, ⟨[], by simp⟩, ⟨[], by simp⟩⟩
  | x :: l, n, o, F, h => by
    unfold foldJ at h
    cases h1 : joinJ o x with
    | none => rw [h1] at h; cases h
    | some o1 =>
      rw [h1] at h
      obtain ⟨⟨a, ha⟩, ⟨b, hb⟩, ⟨c, hc⟩⟩ := foldJ_grow l (n + 1) o1 F h
      obtain ⟨⟨a', ha'⟩, ⟨b', hb'⟩, ⟨c', hc'⟩⟩ := joinJ_grow h1
      exact ⟨⟨a' ++ a, by rw [ha, ha', List.append_assoc]⟩, ⟨b' ++ b, by rw [hb, hb', List.append_assoc]⟩, ⟨c' ++ c, by rw [hc, hc', List.append_assoc]⟩⟩
/-- What is laid, object by object. -/
theorem lay_sim : ∀ (l : List Ob) (n : Nat) (o F : Ob) (R : List Pr), foldJ n o l = .ok F → (∀ x ∈ l, checkOf x = 0) → (∀ r ∈ R, r.2.2 = 65535) → (o.preds ++ R).map called = F.preds.map called →
    l.foldl layK ⟨F.atoms, F.funs, o.preds ++ R, o.code⟩ = F
  | [], n, o, F, R, h, _, _, hq => by
    unfold foldJ at h
    injection h with h
    subst h
    rw [List.map_append] at hq
    have : R.map called = [] := by
      have := congrArg List.length hq
      simp at this
      simp [this]
    have hR : R = [] := List.map_eq_nil_iff.1 this
    subst hR
    simp
  | x :: l, n, o, F, R, h, hc, hR, hq => by
    unfold foldJ at h
    cases h1 : joinJ o x with
    | none => rw [h1] at h; cases h
    | some o1 =>
      rw [h1] at h
      simp only at h
      obtain ⟨⟨a, ha⟩, ⟨b, hb⟩, ⟨c, hc2⟩⟩ := foldJ_grow l (n + 1) o1 F h
      have hk := ok_of (hc x (by simp))
      unfold joinJ at h1
      cases hP : predsJ (o.code.length : Int) o.preds x.preds with
      | none => rw [hP] at h1; cases h1
      | some P =>
        rw [hP] at h1
        injection h1 with h1
        have hPc : ∃ Q, (o.preds ++ R).map called = P.map called ++ Q := ⟨c, by rw [hq, hc2, ← h1]⟩
        obtain ⟨R1, e1, e2, e3⟩ := lay_preds x.preds o.preds R P hP hR hPc
        obtain ⟨m1, hm1, hm1'⟩ := addAll_grow x.atoms o.atoms
        obtain ⟨m2, hm2, hm2'⟩ := addAll_grow x.funs o.funs
        have hFp : ∀ p ∈ x.preds, findFrom p.1 p.2.1 0 (o.preds ++ R) = findFrom p.1 p.2.1 0 P := fun p hp => by
          obtain ⟨Q, hQ⟩ := hPc
          have hin : (p.1, p.2.1) ∈ P.map called := by
            have : ∀ (ps P P' : List Pr), predsJ (o.code.length : Int) P ps = some P' → ∀ q ∈ ps, called q ∈ P'.map called := by
              intro ps
              induction ps with
              | nil => intro P P' _ q hq; cases hq
              | cons q0 ps ih =>
                intro P P' hh q hq
                unfold predsJ at hh
                cases h2 : predJ (o.code.length : Int) P q0 with
                | none => rw [h2] at hh; cases hh
                | some P1 =>
                  rw [h2] at hh
                  rcases List.mem_cons.1 hq with rfl | hq
                  · obtain ⟨Q3, hQ3⟩ := predsJ_grow ps P1 P' hh
                    rw [hQ3, predJ_called h2, List.mem_append]
                    left
                    rcases predIn_at P (called q) with ⟨hm, he, _⟩ | ⟨hm, he⟩
                    · rw [he]; exact hm
                    · rw [he]; simp [called]
                  · exact ih P1 P' hh q hq
            exact this _ _ _ hP p hp
          have hfind := findFrom_mem p.1 p.2.1 0 P hin
          have hcut : ∃ T : List Pr, T.map called = Q := by
            refine ⟨(o.preds ++ R).drop P.length, ?_⟩
            have := congrArg (List.drop P.length) hQ
            rw [← List.map_drop] at this
            rw [this]
            simp
          obtain ⟨T, hT⟩ := hcut
          rw [findFrom_called p.1 p.2.1 0 (o.preds ++ R) (P ++ T) (by rw [hQ, List.map_append, hT]), findFrom_app p.1 p.2.1 0 P T hfind]
        have e4 : x.code.map (insJ ⟨F.atoms, F.funs, o.preds ++ R, []⟩ x (o.code.length : Int)) = x.code.map (insJ ⟨x.atoms.foldl addTo o.atoms, x.funs.foldl addTo o.funs, P, []⟩ x (o.code.length : Int)) := by
          apply List.map_congr_left
          intro i hi
          apply insJ_same
          · intro s hs
            simp only
            rw [ha, ← h1]
            simp only
            exact place_app a (by rw [hm1]; exact hm1' s hs)
          · intro s hs
            simp only
            rw [hb, ← h1]
            simp only
            exact place_app b (by rw [hm2]; exact hm2' s hs)
          · exact hFp
          · exact hk.code i hi
        rw [List.foldl_cons]
        have e5 : layK ⟨F.atoms, F.funs, o.preds ++ R, o.code⟩ x = ⟨F.atoms, F.funs, o1.preds ++ R1, o1.code⟩ := by
          unfold layK
          simp only
          rw [e1, e4, ← h1]
        rw [e5]
        exact lay_sim l (n + 1) o1 F R1 h (fun y hy => hc y (by simp [hy])) e2 (by rw [← hq, ← e3, ← h1])
theorem firstErr_none : ∀ (l : List Ob) (n : Nat), firstErr n l = none → ∀ x ∈ l, checkOf x = 0
  | [], n, _ => by simp
  | y :: l, n, h => by
    unfold firstErr at h
    split at h
    · rename_i hy
      intro x hx
      rcases List.mem_cons.1 hx with rfl | hx
      · exact hy
      · exact firstErr_none l (n + 1) h x hx
    · cases h
theorem link_eq (l : List Ob) (hl : l.length ≤ 60) : linkP l = linkOf l := by
  unfold linkP linkOf
  cases h1 : firstErr 0 l with
  | some p => rfl
  | none =>
    have hc := firstErr_none l 0 h1
    simp only
    rcases fold_sim l [] emptyOb startLk start_sim hc (by simpa using hl) with ⟨n, e1, e2⟩ | ⟨o, s, e1, e2, hs⟩
    · rw [List.length_nil] at e1 e2
      rw [e1, e2]
    · rw [List.length_nil] at e1 e2
      rw [List.nil_append] at hs
      rw [e1, e2]
      simp only
      rcases unknown_sim hs with ⟨h3, h4⟩ | ⟨h3, h4⟩
      · rw [h3, if_neg (by omega)]
        simp only
        have hlen : s.preds.length = o.preds.length := by rw [hs.l.preds, List.length_map]
        have hfl : decide (256 < s.atoms.length ∨ 256 < s.funs.length ∨ 64 < s.preds.length ∨ 1024 < s.n) = bigO o := by
          unfold bigO bigB
          rw [hs.atoms, hs.funs, hlen, hs.n]
          congr 1
          simp only [eq_iff_iff]
          omega
        rw [hfl]
        split
        · rfl
        · have := lay_sim l 0 emptyOb o s.preds e1 hc (fun r hr => by
            rw [hs.l.preds] at hr
            obtain ⟨p, _, rfl⟩ := List.mem_map.1 hr
            rfl) (by rw [show emptyOb.preds = ([] : List Pr) from rfl, List.nil_append]; exact hs.l.called_eq)
          rw [show emptyOb.preds = ([] : List Pr) from rfl, List.nil_append, show emptyOb.code = ([] : List Ins) from rfl] at this
          rw [hs.atoms, hs.funs, this]
      · rw [h3, if_pos h4]

end Go.Proofs.YtclkdlegogjnbaaGreatDoor

namespace Go.Proofs.YtclkdlegogjnbaaGreatDoor
open Go
set_option linter.unusedVariables false
set_option linter.unusedSimpArgs false

/-- An instruction whose labels are numbers. -/
def GoodI (o : Ob) (i : Ins) : Prop :=
  0 ≤ i.1 ∧ i.1 ≤ 26 ∧ (∀ j, j < (opsOf i.1).length → goodArg o i.1 ((opsOf i.1).getD j 0) ((argOf i).getD j 0)) ∧ ∀ j, (opsOf i.1).length ≤ j → j < 4 → (argOf i).getD j 0 = 0
theorem GoodI.grow {o o' : Ob} {i : Ins} (h : GoodI o i) (hg : Grown o o') : GoodI o' i := ⟨h.1, h.2.1, fun j hj => (h.2.2.1 j hj).grow hg, h.2.2.2⟩
/-- What comes to be may be, once its labels are places. -/
structure GoodS (s : St) : Prop where
  t : GoodT s.ob
  code : ∀ i ∈ s.ob.code, GoodI s.ob i
  ents : ∀ p ∈ s.ob.preds, p.2.2 = 65535 ∨ (0 ≤ p.2.2 ∧ ∃ l, (l, p.2.2, true) ∈ s.pts)
  pts : (s.pts.filter (fun p => !p.2.2)).map (fun p => p.2.1) = (List.range s.ob.code.length).map (fun k : Nat => (k : Int))
theorem GoodS.start : GoodS startSt :=
  ⟨⟨fun s h => absurd h (by simp [startSt, emptyOb]), by simp [startSt, emptyOb], fun s h => absurd h (by simp [startSt, emptyOb]), by simp [startSt, emptyOb], fun s h => absurd h (by simp [startSt, emptyOb]), by simp [startSt, emptyOb]⟩, fun s h => absurd h (by simp [startSt, emptyOb]), fun s h => absurd h (by simp [startSt, emptyOb]), by simp [startSt, emptyOb]⟩
end Go.Proofs.YtclkdlegogjnbaaGreatDoor

namespace Go.Proofs.YtclkdlegogjnbaaGreatDoor
open Go Go.RowKit Go.WideShapes Go.ChangeShapes
set_option linter.unusedVariables false
set_option linter.unusedSimpArgs false

/-- What settling a line comes to, whatever the row of code. -/
def SettleV (w0 w : World) (g M : Nat) (va vf vp vc vq : Value) (s : St) (r : Except (Int × Int) Ob) (e : Ending) (w' : World) : Prop :=
  match r with
  | .error c => e = .returned (.int .i64 c.1) ∧ Below w0.heap.size w0 w' ∧ Fr (fun k => vc.ownBlock = some k) w w'
  | .ok o => e = .returned (.int .i64 0) ∧ Mk w0 w' g M va vf vp vc vq { s with ob := o }
theorem settleV_err {w0 w w' : World} {g M : Nat} {va vf vp vc vq : Value} {s : St} {r : Except (Int × Int) Ob} {c n : Int} (h : r = .error (c, n)) (hb : Below w0.heap.size w0 w') (hf : Fr (fun k => vc.ownBlock = some k) w w') : SettleV w0 w g M va vf vp vc vq s r (.returned (.int .i64 c)) w' := by
  subst h
  exact ⟨rfl, hb, hf⟩
theorem settleV_ok {w0 w w' : World} {g M : Nat} {va vf vp vc vq : Value} {s : St} {r : Except (Int × Int) Ob} {o : Ob} (h : r = .ok o) (hk : Mk w0 w' g M va vf vp vc vq { s with ob := o }) : SettleV w0 w g M va vf vp vc vq s r (.returned (.int .i64 0)) w' := by
  subst h
  exact ⟨rfl, hk⟩

set_option maxRecDepth 100000 in
set_option maxHeartbeats 8000000 in
theorem settleV_any (w0 : World) (g M : Nat) (va vf vp vc vq : Value) (s : St) (l n : Int) (b : Bool) (hn : b = false → 0 ≤ n ∧ n < s.ob.code.length) (hA : ∀ i (hi : i < s.ob.code.length), ∀ m, m < 4 → -9223372036854775808 ≤ (argOf s.ob.code[i]).getD m 0 ∧ (argOf s.ob.code[i]).getD m 0 ≤ 9223372036854775807)
    (hl : s.ob.preds.length ≤ 1000000 ∧ s.ob.code.length ≤ 1000000) (w : World) (hk : Mk w0 w g M va vf vp vc vq s) :
    Calls Tryz.prog 49 #[.pointer (some ⟨g, 0, none⟩), .agg #[.int .i64 l, .int .i64 n, .bool b]] w (SettleV w0 w g M va vf vp vc vq s (ptStep s.labs s.ob (l, n, b))) := by
  cases b with
  | false =>
    obtain ⟨gc, cc, rfl⟩ := own_some hk.rc (by have := hn rfl; omega)
    refine (settle_any w0 g M gc cc va vf vp vq s l n false hn hA hl w hk).mono fun e w' h => ?_
    unfold SettleW at h
    unfold SettleV
    cases hr : ptStep s.labs s.ob (l, n, false) with
    | error c =>
      rw [hr] at h
      exact ⟨h.1, h.2.1, h.2.2.mono fun k _ e => by rw [e]; rfl⟩
    | ok o =>
      rw [hr] at h
      exact ⟨h.1, h.2.1⟩
  | true =>
    have K1 := Lib.hid (hk.alloc (.cells #[.int .i64 l, .int .i64 n, .bool true] 105))
    have HE : Hid (ptStep s.labs s.ob (l, n, true) = if (s.ob.code.length : Int) ≤ n ∨ 1 < cntOf s.ob.preds n then .error (7, l) else .ok s.ob) := Lib.hid rfl
    have HS := Lib.hid (fun W h => settlePred_any w0 g M va vf vp vc vq s n hl W h)
    generalize ptStep s.labs s.ob (l, n, true) = r at HE
    by_cases hc : (s.ob.code.length : Int) ≤ n ∨ 1 < cntOf s.ob.preds n
    · have HX : Hid (r = .error (7, l)) := Lib.hid (by rw [HE.out, if_pos hc])
      rw [if_pos hc] at HS
      clear hc hk hn hA
      go_enter Tryz.func49, Tryz.ntmps49
      go_wp2_with (go_at_call 79; refine (HS.out _ K1.out).mono ?_; rintro e w2 ⟨rfl, hk2, hb2⟩; have HK2 := Lib.hid hk2; have HF2 : Hid (Fr (fun k => vc.ownBlock = some k) w w2) := Lib.hid (((Fr.refl _ w).alloc _).trans (Fr.of_below hb2)); clear hk2 hb2)
      go_ret
      exact settleV_err HX.out HK2.out.below HF2.out
    · have HX : Hid (r = .ok s.ob) := Lib.hid (by rw [HE.out, if_neg hc])
      rw [if_neg hc] at HS
      clear hc hk hn hA
      go_enter Tryz.func49, Tryz.ntmps49
      go_wp2_with (go_at_call 79; refine (HS.out _ K1.out).mono ?_; rintro e w2 ⟨rfl, hk2, _⟩; have HK2 := Lib.hid hk2; clear hk2)
      go_ret
      exact settleV_ok HX.out HK2.out

/-- What Program hands back. -/
structure ObOwn (w : World) (base : Nat) (va vf vp vc : Value) (o : Ob) : Prop where
  ra : w.ownsRow base 9 1 va o.atoms.length (o.atoms.map Value.string)
  rf : w.ownsRow base 82 2 vf o.funs.length (o.funs.flatMap funC)
  rp : w.ownsRow base 64 3 vp o.preds.length (o.preds.flatMap predC)
  rc : w.ownsRow base 52 5 vc o.code.length (o.code.flatMap insC)
theorem ObOwn.at_ {w : World} {base : Nat} {va vf vp vc : Value} {o : Ob} (h : ObOwn w base va vf vp vc o) : ObAt w va vf vp vc o :=
  ⟨CellsAt.of_own h.ra (by decide), CellsAt.of_own h.rf (by decide), CellsAt.of_own h.rp (by decide), CellsAt.of_own h.rc (by decide)⟩
theorem ObOwn.of_mk {w0 w : World} {g M : Nat} {va vf vp vc vq : Value} {s : St} (h : Mk w0 w g M va vf vp vc vq s) {base : Nat} (hb : base ≤ w0.heap.size) : ObOwn w base va vf vp vc s.ob :=
  ⟨own_more h.ra fun k hk => Nat.le_trans hb (own_ge h.ra hk).1, own_more h.rf fun k hk => Nat.le_trans hb (own_ge h.rf hk).1, own_more h.rp fun k hk => Nat.le_trans hb (own_ge h.rp hk).1, own_more h.rc fun k hk => Nat.le_trans hb (own_ge h.rc hk).1⟩
theorem ObOwn.nil (w : World) (base : Nat) : ObOwn w base (.slice none 0 0) (.slice none 0 0) (.slice none 0 0) (.slice none 0 0) emptyOb :=
  ⟨⟨rfl, .inl ⟨rfl, rfl⟩⟩, ⟨rfl, .inl ⟨rfl, rfl⟩⟩, ⟨rfl, .inl ⟨rfl, rfl⟩⟩, ⟨rfl, .inl ⟨rfl, rfl⟩⟩⟩
def AsmW (w : World) (r : Ob × Int × Int) (e : Ending) (w' : World) : Prop :=
  ∃ va vf vp vc, e = .returned (.tuple #[.agg #[va, vf, vp, vc], .int .i64 r.2.1, .int .i64 r.2.2]) ∧ ObOwn w' w.heap.size va vf vp vc r.1 ∧ Below w.heap.size w w'
theorem asmW_err {w w' : World} {r : Ob × Int × Int} {c n : Int} (h : r = (emptyOb, c, n)) (hb : Below w.heap.size w w') : AsmW w r (.returned (.tuple #[.agg #[.slice none 0 0, .slice none 0 0, .slice none 0 0, .slice none 0 0], .int .i64 c, .int .i64 n])) w' := by
  subst h
  exact ⟨_, _, _, _, rfl, ObOwn.nil _ _, hb⟩
theorem asmW_ok {w w' : World} {va vf vp vc : Value} {r : Ob × Int × Int} {o : Ob} (h : r = (o, 0, -1)) (ho : ObOwn w' w.heap.size va vf vp vc o) (hb : Below w.heap.size w w') : AsmW w r (.returned (.tuple #[.agg #[va, vf, vp, vc], .int .i64 0, .int .i64 (-1)])) w' := by
  subst h
  exact ⟨_, _, _, _, rfl, ho, hb⟩

/-- How far the loop over the lines is. -/
def LnP (L : List (List UInt8)) (k : Nat) (s : St) : Prop := linesStep 0 L startSt = linesStep k (L.drop k) s ∧ StB s ∧ s.pts.length ≤ k ∧ s.labs.length ≤ k ∧ s.ob.atoms.length ≤ 256 ∧ s.ob.funs.length ≤ 256 ∧ s.ob.preds.length ≤ 64 ∧ s.ob.code.length ≤ 1024
theorem LnP.start (L : List (List UInt8)) : LnP L 0 startSt := ⟨rfl, StB.start, by simp [startSt], by simp [startSt], by simp [startSt, emptyOb], by simp [startSt, emptyOb], by simp [startSt, emptyOb], by simp [startSt, emptyOb]⟩
theorem LnP.err {L : List (List UInt8)} {k : Nat} {s : St} {c : Int} (h : LnP L k s) (hk : k < L.length) (he : lineStep (k : Int) L[k] s = .error c) : asmOf L = (emptyOb, c, (k : Int)) := by
  have e : linesStep 0 L startSt = .error (c, (k : Int)) := by
    rw [h.1, List.drop_eq_getElem_cons hk, linesStep, he]
  rw [asmOf, e]
theorem LnP.big {L : List (List UInt8)} {k : Nat} {s s' : St} (h : LnP L k s) (hk : k < L.length) (he : lineStep (k : Int) L[k] s = .ok s') (hb : bigO s'.ob = true) : asmOf L = (emptyOb, 2, (k : Int)) := by
  have e : linesStep 0 L startSt = .error (2, (k : Int)) := by
    rw [h.1, List.drop_eq_getElem_cons hk, linesStep, he]
    simp only
    rw [if_pos hb]
  rw [asmOf, e]
theorem LnP.ok {L : List (List UInt8)} {k : Nat} {s s' : St} (h : LnP L k s) (hk : k < L.length) (he : lineStep (k : Int) L[k] s = .ok s') (hb : bigO s'.ob = false) : LnP L (k + 1) s' := by
  obtain ⟨h1, h2, h3, h4, h5, h6, h7, h8⟩ := h
  obtain ⟨b1, b2, b3, _⟩ := line_bd he h2 (by omega)
  obtain ⟨g1, g2, g3, g4⟩ := big_bd hb
  refine ⟨?_, b1, by omega, by omega, g1, g2, g3, g4⟩
  rw [h1, List.drop_eq_getElem_cons hk, linesStep, he]
  simp only
  rw [if_neg (by rw [hb]; decide)]
theorem LnP.done {L : List (List UInt8)} {s : St} (h : LnP L L.length s) : asmOf L = match ptsStep s.labs s.pts s.ob with
    | .error (e, n) => (emptyOb, e, n)
    | .ok o => (o, 0, -1) := by
  have e : linesStep 0 L startSt = .ok s := by
    rw [h.1, List.drop_length, linesStep]
  rw [asmOf, e]
  rfl
/-- How far the loop over the points is. -/
def PtP (s : St) (k : Nat) (o : Ob) : Prop := ptsStep s.labs s.pts s.ob = ptsStep s.labs (s.pts.drop k) o ∧ o.code.length = s.ob.code.length ∧ o.preds = s.ob.preds ∧ (∀ i ∈ o.code, ∀ m, m < 4 → 0 ≤ (argOf i).getD m 0 ∧ (argOf i).getD m 0 ≤ 4000000)
theorem PtP.start {s : St} (h : StB s) : PtP s 0 s.ob := ⟨rfl, rfl, rfl, h.code⟩
theorem PtP.err {s : St} {k : Nat} {o : Ob} {c : Int × Int} (h : PtP s k o) (hk : k < s.pts.length) (he : ptStep s.labs o s.pts[k] = .error c) : ptsStep s.labs s.pts s.ob = .error c := by
  rw [h.1, List.drop_eq_getElem_cons hk, ptsStep, he]
theorem PtP.ok {s : St} {k : Nat} {o o' : Ob} (h : PtP s k o) (hb : StB s) (hl : s.ob.code.length ≤ 2000) (hk : k < s.pts.length) (he : ptStep s.labs o s.pts[k] = .ok o') : PtP s (k + 1) o' := by
  obtain ⟨b1, b2, _, _, b3⟩ := pt_bd hb.labs he (by rw [h.2.1]; exact hl) h.2.2.2
  refine ⟨?_, by rw [b1, h.2.1], by rw [b2, h.2.2.1], b3⟩
  rw [h.1, List.drop_eq_getElem_cons hk, ptsStep, he]
theorem PtP.done {s : St} {o : Ob} (h : PtP s s.pts.length o) : ptsStep s.labs s.pts s.ob = .ok o := by
  rw [h.1, List.drop_length, ptsStep]
theorem ptCell {w : World} {base : Nat} {A : Option Addr} {c : Nat} {l : List (Int × Int × Bool)} (h : w.ownsRow base 105 3 (.slice A l.length c) l.length (l.flatMap ptC)) (k : Nat) (hk : k < l.length) :
    ∃ b, A = some ⟨b, 0, none⟩ ∧ w.cell? ⟨b, k * 3, none⟩ = some (.int .i64 l[k].1) ∧ w.cell? ⟨b, k * 3 + 1, none⟩ = some (.int .i64 l[k].2.1) ∧ w.cell? ⟨b, k * 3 + 2, none⟩ = some (.bool l[k].2.2) := by
  obtain ⟨b, cp, hv⟩ := own_some h (by omega)
  injection hv with hA _ _
  subst hA
  have hf := flat_at ptC 3 (fun _ => rfl) l k l[k] (by simp [hk])
  have c0 := h.cells (g := b) rfl _ _ (hf 0 (by omega))
  have c1 := h.cells (g := b) rfl _ _ (hf 1 (by omega))
  have c2 := h.cells (g := b) rfl _ _ (hf 2 (by omega))
  rw [add_plain, Nat.zero_add] at c0 c1 c2
  exact ⟨b, rfl, c0, c1, c2⟩

end Go.Proofs.YtclkdlegogjnbaaGreatDoor

namespace Go.Proofs.YtclkdlegogjnbaaGreatDoor
open Go
set_option linter.unusedVariables false
set_option linter.unusedSimpArgs false

/-- What is settled after so many instructions. -/
structure SetTo (s : St) (k : Nat) (o : Ob) : Prop where
  atoms : o.atoms = s.ob.atoms
  funs : o.funs = s.ob.funs
  preds : o.preds = s.ob.preds
  len : o.code.length = s.ob.code.length
  ok : ∀ j, j < k → insErr s.ob.atoms.length s.ob.funs.length s.ob.preds.length s.ob.code.length (o.code.getD j (0, 0, 0, 0, 0)) = 0
  rest : ∀ j, k ≤ j → o.code.getD j (0, 0, 0, 0, 0) = s.ob.code.getD j (0, 0, 0, 0, 0)

theorem code_ok {a f p c : Nat} : ∀ l : List Ins, (∀ i ∈ l, insErr a f p c i = 0) → codeErr a f p c l = 0
  | [], _ => rfl
  | i :: l, h => by
    rw [codeErr, if_pos (h i List.mem_cons_self)]
    exact code_ok l fun j hj => h j (List.mem_cons_of_mem _ hj)

theorem names_ok {o : Ob} (h : GoodT o) : namesOk o = true := by
  unfold namesOk
  rw [Bool.and_eq_true, Bool.and_eq_true, List.all_eq_true, List.all_eq_true, List.all_eq_true]
  refine ⟨⟨h.atoms, fun f hf => ?_⟩, fun f hf => ?_⟩
  · have := h.funs f hf
    simp [funOk, this.1, this.2.1, this.2.2]
  · obtain ⟨p, hp, rfl⟩ := List.mem_map.1 hf
    have := h.preds p hp
    simp [funOk, called, this.1, this.2.1, this.2.2]
theorem dup_ok {o : Ob} (h : GoodT o) : dupB o = false := by
  simp [dupB, twiceB, h.nda, h.ndf, h.ndp]

end Go.Proofs.YtclkdlegogjnbaaGreatDoor
