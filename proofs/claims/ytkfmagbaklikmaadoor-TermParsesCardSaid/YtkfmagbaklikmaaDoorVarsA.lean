/-
  Which variables: the model; the program's finder, by a contract. Condition: at most a million parts.
-/
import Derived.Test.YtkfmagbaklikmaaDoorTermB
import Derived.Maps.Own
import Derived.Maps.Views
import Derived.Deep.QuietTactic
import Derived.BigQuiet
namespace Go.Proofs.YtkfmagbaklikmaaDoor
open Go Go.RowKit Go.Maps
set_option linter.unusedVariables false
set_option linter.unusedSimpArgs false

def addVar (acc : List Int) (n : Int) : List Int := if n ∈ acc then acc else acc ++ [n]
mutual
def Tm.vars : List Int → Tm → List Int
  | acc, .node k n _ l => if k = 0 then addVar acc n else varsL acc l
def varsL : List Int → List Tm → List Int
  | acc, [] => acc
  | acc, t :: r => varsL (t.vars acc) r
end
theorem addVar_len (acc : List Int) (n : Int) : acc.length ≤ (addVar acc n).length ∧ (addVar acc n).length ≤ acc.length + 1 := by
  unfold addVar
  split <;> simp
mutual
theorem vars_len : ∀ (acc : List Int) (t : Tm), acc.length ≤ (t.vars acc).length ∧ (t.vars acc).length ≤ acc.length + t.size
  | acc, .node k n s l => by
    rw [Tm.vars, size_node]
    split
    · have := addVar_len acc n
      omega
    · have := varsL_len acc l
      omega
theorem varsL_len : ∀ (acc : List Int) (l : List Tm), acc.length ≤ (varsL acc l).length ∧ (varsL acc l).length ≤ acc.length + sizes l
  | acc, [] => by simp [varsL]
  | acc, t :: r => by
    have h1 := vars_len acc t
    have h2 := varsL_len (t.vars acc) r
    simp only [varsL, sizes]
    omega
end
theorem varsL_drop (acc : List Int) (l : List Tm) (j : Nat) (h : j < l.length) : varsL acc (l.drop j) = varsL ((l[j]).vars acc) (l.drop (j + 1)) := by
  rw [List.drop_eq_getElem_cons h, varsL]
theorem sizes_drop (l : List Tm) (j : Nat) (h : j < l.length) : sizes (l.drop j) = l[j].size + sizes (l.drop (j + 1)) := by
  rw [List.drop_eq_getElem_cons h, sizes]

/-! ### The finder in memory -/
def seenD (acc : List Int) : DataW Unit := setOf (.lit (.bool true)) (acc.map (Lit.int .i64))
theorem seen_tidy (acc : List Int) : Tidy (seenD acc) := tidy_setOf _ _ (by
  intro x hx
  obtain ⟨a, _, rfl⟩ := List.mem_map.1 hx
  trivial)
theorem at_fold (n : Int) (z : DataW Unit) : ∀ (acc : List Int) (m : DataW Unit), IsMap m →
    ((acc.map (Lit.int .i64)).foldl (fun m x => m.put x (.lit (.bool true))) m).atKey (.int .i64 n) z = if n ∈ acc then .lit (.bool true) else m.atKey (.int .i64 n) z
  | [], m, _ => by simp
  | a :: r, m, hm => by
    rw [List.map_cons, List.foldl_cons, at_fold n z r _ (hm.put _ _)]
    by_cases h : n = a
    · subst h
      rw [atKey_put_same hm (show WideAt.IsKeyLit (Lit.int .i64 n) from trivial)]
      simp
    · rw [atKey_put_other (by simpa using h)]
      simp [h]
theorem seen_at (acc : List Int) (n : Int) : (seenD acc).atKey (.int .i64 n) (.lit (.bool false)) = .lit (.bool (decide (n ∈ acc))) := by
  unfold seenD setOf
  rw [at_fold n _ acc _ isMap_empty]
  by_cases h : n ∈ acc <;> simp [h] <;> rfl

theorem uInt : Tryd.prog.underlying 3 = some (.int .i64) := by kernel_rfl
theorem uBool : Tryd.prog.underlying 4 = some .bool := by kernel_rfl
theorem uMap : Tryd.prog.underlying 58 = some (.map 3 4) := by kernel_rfl
theorem zBool (w : World) : (zeroValue 4).run Tryd.prog w = .ok (.bool false) w := by kernel_rfl

structure Fd (w : World) (B F M : Nat) (acc : List Int) (vs : Value) : Prop where
  box : Box w F 60 #[vs, .map (some M)]
  map : w.ownsMap Tryd.prog 3 (plainElem Tryd.prog 4) M acc.length (seenD acc)
  row : w.ownsRow B 3 1 vs acc.length (acc.map (Value.int .i64))
  newF : B ≤ F
  newM : B ≤ M
  wf : ∀ n ∈ acc, (Lit.int .i64 n).wf = true
theorem Fd.neFM {w : World} {B F M : Nat} {acc : List Int} {vs : Value} (h : Fd w B F M acc vs) : F ≠ M := by
  rintro rfl
  obtain ⟨es, cl, hm, _⟩ := h.map
  have := h.box
  unfold Box at this
  rw [this] at hm
  simp at hm
theorem Fd.neRF {w : World} {B F M : Nat} {acc : List Int} {vs : Value} (h : Fd w B F M acc vs) : vs.ownBlock ≠ some F := fun e => absurd (own_ne_box_of h.row h.box e) (by decide)
theorem Fd.neRM {w : World} {B F M : Nat} {acc : List Int} {vs : Value} (h : Fd w B F M acc vs) : vs.ownBlock ≠ some M := by
  intro e
  obtain ⟨es, cl, hm, _⟩ := h.map
  rcases h.row.2 with ⟨rfl, _⟩ | ⟨g, cap, cur, rfl, _, hh, _⟩
  · simp [Value.ownBlock] at e
  · have : g = M := by simpa [Value.ownBlock] using e
    subst this
    rw [hh] at hm
    simp at hm
theorem Fd.fr {w w' : World} {S : Nat → Prop} {B F M : Nat} {acc : List Int} {vs : Value} (h : Fd w B F M acc vs) (hf : Fr S w w') (h1 : ¬ S F) (h2 : ¬ S M) (h3 : ∀ k, vs.ownBlock = some k → ¬ S k) : Fd w' B F M acc vs := by
  refine ⟨h.box.fr hf h1, ?_, own_fr h.row hf h3, h.newF, h.newM, h.wf⟩
  obtain ⟨es, cl, hm, F1, F2, F3⟩ := h.map
  exact ⟨es, cl, (hf.block M h.map.lt h2).trans hm, F1, F2, F3⟩
theorem Fd.below {w w' : World} {B F M : Nat} {acc : List Int} {vs : Value} (h : Fd w B F M acc vs) (hb : Below w.heap.size w w') : Fd w' B F M acc vs :=
  h.fr (S := fun _ => False) (Fr.of_below hb) (fun x => x) (fun x => x) (fun _ _ x => x)
theorem Fd.alloc {w : World} {B F M : Nat} {acc : List Int} {vs : Value} (h : Fd w B F M acc vs) (o : Obj) : Fd (w.alloc o) B F M acc vs := h.below ((Below.refl _ w).alloc (Nat.le_refl _) o)
theorem Fd.drewN {w : World} {B F M : Nat} {acc : List Int} {vs : Value} (h : Fd w B F M acc vs) (n : Nat) : Fd (w.drewN n) B F M acc vs := h.fr (S := fun _ => False) ((Fr.refl _ w).drewN n) (fun x => x) (fun x => x) (fun _ _ x => x)
/-- Is a number seen? -/
theorem Fd.look {w : World} {B F M : Nat} {acc : List Int} {vs : Value} (h : Fd w B F M acc vs) (n : Int) (hn : (Lit.int .i64 n).wf = true) :
    (Instr.lookup 58 (.map (some M)) (.int .i64 n) false).run Tryd.prog w = .ok (.bool (decide (n ∈ acc))) w := by
  obtain ⟨v, ps, hrun, hv⟩ := h.map.lookup (int_keyed uInt) uMap (zBool w) (plainElem_bool uBool false) (keyOf_int_mk uInt hn)
  rw [seen_at] at hv
  have : v = .bool (decide (n ∈ acc)) := by
    unfold plainElem at hv
    rw [uBool] at hv
    cases v <;> simp at hv
    simp [hv]
  rw [← this]
  exact hrun

theorem Fd.upd {w : World} {B F M : Nat} {acc : List Int} {vs : Value} (h : Fd w B F M acc vs) {n : Int} (hn : (Lit.int .i64 n).wf = true) (hl : acc.length < maxLen) :
    ∃ w', (Instr.mapUpdate 58 (.map (some M)) (.int .i64 n) (.bool true)).run Tryd.prog w = .ok () w' ∧ w'.ownsMap Tryd.prog 3 (plainElem Tryd.prog 4) M (acc ++ [n]).length (seenD (acc ++ [n])) ∧ w.grownBy w' (some M) := by
  obtain ⟨w', h1, h2, h3⟩ := h.map.update (int_keyed uInt) uMap hl (keyOf_int_mk uInt hn) (plainElem_bool uBool true)
  refine ⟨w', h1, ?_, h3⟩
  have e : seenD (acc ++ [n]) = (seenD acc).put (.int .i64 n) (.lit (.bool true)) := by
    unfold seenD
    rw [List.map_append, List.map_singleton, setOf_snoc]
  have e2 : (acc ++ [n]).length = acc.length + 1 := by simp
  rw [e, e2]
  exact h2

theorem bel_drewN2 {B : Nat} {w w' : World} (h : Below B w w') (n : Nat) : Below B w (w'.drewN n) := ⟨h.os, h.tape, h.output, h.size, h.block⟩
theorem fd_store {wp w6 w8 : World} {B F M : Nat} {ac : List Int} {us v8 : Value} {n : Int} (h : Fd wp B F M ac us) (hbox : Box w8 F 60 #[us, .map (some M)]) (hmap : w6.ownsMap Tryd.prog 3 (plainElem Tryd.prog 4) M (ac ++ [n]).length (seenD (ac ++ [n]))) (hn : (Lit.int .i64 n).wf = true)
    (hf : Fr (fun b => us.ownBlock = some b) (w6.drewN 1 |>.alloc (.cells #[.int .i64 n] 3)) w8) (hM : us.ownBlock ≠ some M) (hMl : M < w6.heap.size) (hown : w8.ownsRow B 3 1 v8 (ac.length + 1) (ac.map (Value.int .i64) ++ [.int .i64 n])) :
    Fd (w8.setCell ⟨F, 0, none⟩ v8) B F M (ac ++ [n]) v8 := by
  have hb : Box (w8.setCell ⟨F, 0, none⟩ v8) F 60 #[v8, .map (some M)] := by
    have := hbox.set_ 0 v8
    simpa using this
  refine ⟨hb, ?_, ?_, h.newF, h.newM, ?_⟩
  · obtain ⟨es, cl, hm, F1, F2, F3⟩ := hmap
    refine ⟨es, cl, ?_, F1, F2, F3⟩
    rw [Below.heap_setCell _ ⟨F, 0, none⟩ _ _ (fun e => h.neFM e.symm), hf.block M (by simp; omega) hM]
    exact (Below.heap_alloc (w6.drewN 1) _ M hMl).trans hm
  · have e : (ac ++ [n]).length = ac.length + 1 := by simp
    have e2 : (ac ++ [n]).map (Value.int .i64) = ac.map (Value.int .i64) ++ [.int .i64 n] := by simp
    rw [e, e2]
    exact own_set_far hown (fun k hk x => absurd (own_ne_box_of hown hbox (by rw [hk, x])) (by decide)) _
  · intro a ha
    rcases List.mem_append.1 ha with ha | ha
    · exact h.wf a ha
    · rw [List.mem_singleton.1 ha]
      exact hn

def VarsPost (w : World) (B F M : Nat) (acc : List Int) (e : Ending) (w' : World) : Prop := e = .returned (.tuple #[]) ∧ (∃ vs, Fd w' B F M acc vs) ∧ Below B w w'
def VarsC (B F M f : Nat) : Prop := ∀ (l : List Tm) (A : Option Addr) (c : Nat) (w : World) (S : Nat → Prop) (acc : List Int) (vs : Value), l.length ≤ c → c ≤ maxLen →
    (∀ i (h : i < l.length), ∃ b off v0 v1 v2 v3, A = some ⟨b, off, none⟩ ∧ S b ∧ w.cell? ⟨b, off + i * 4, none⟩ = some v0 ∧ w.cell? ⟨b, off + i * 4 + 1, none⟩ = some v1 ∧
        w.cell? ⟨b, off + i * 4 + 2, none⟩ = some v2 ∧ w.cell? ⟨b, off + i * 4 + 3, none⟩ = some v3 ∧ Reads w S f l[i] (.agg #[v0, v1, v2, v3])) →
    (∀ b, S b → b < B) → Fd w B F M acc vs → acc.length + sizes l ≤ 1000000 → Calls Tryd.prog 27 #[.pointer (some ⟨F, 0, none⟩), .slice A l.length c] w fun e w' => VarsPost w B F M (varsL acc l) e w'

theorem info3 : (Tryd.prog.info? 3).map (fun i => (i.zero, i.size, i.bytes)) = some (some (.int .i64 0), 1, 8) := by kernel_rfl

set_option maxHeartbeats 4000000 in
set_option maxRecDepth 100000 in
theorem vars_step {B F M f : Nat} (ih : ∀ f', f = f' + 1 → VarsC B F M f') : VarsC B F M f := by
  intro l A c w S acc vs hc hcm hp hS hF hz
  have IH := Lib.hid ih
  have HP := Lib.hid hp
  have HS := Lib.hid hS
  have HFd := Lib.hid hF
  have hBw : B ≤ w.heap.size := by have := hF.newF; have := hF.box.lt; omega
  obtain ⟨i0, hi, hz0, hz1, hz2⟩ := info_parts info3
  have HI := Lib.hid hi
  have HZ0 := Lib.hid hz0
  have HZ1 := Lib.hid hz1
  have HZ2 := Lib.hid hz2
  have HZS := Lib.hid hz
  unfold maxLen at hcm
  clear ih hp hS hF hi hz0 hz1 hz2 hz
  obtain ⟨res, hres⟩ : ∃ res, varsL acc l = res := ⟨_, rfl⟩
  have HRES := Lib.hid hres
  rw [hres]
  clear hres
  go_enter Tryd.func27, Tryd.ntmps27
  go_wp2_with (fail)
  go_loopw [8] (fun i wr => ∃ (j : Nat) (ac : List Int) (us : Value), i = .int .i64 ((j : Nat) : Int) ∧ j ≤ l.length ∧ Hid (res = varsL ac (l.drop j)) ∧ Hid (ac.length + sizes (l.drop j) ≤ 1000000) ∧ Hid (Fd wr B F M ac us) ∧ Hid (Below B w wr)) (fun i _ => l.length - (intOf i).toNat)
  case atStart => exact ⟨0, acc, vs, rfl, Nat.zero_le _, HRES.out.symm, HZS.out, HFd, Below.refl _ _⟩
  case round =>
    obtain ⟨j, ac, us, rfl, hj, HR1, HZ, HF1, HB1⟩ := hrel
    clear HFd
    by_cases hlt : j < l.length
    · obtain ⟨b, off, v0, v1, v2, v3, rfl, hb, c0, c1, c2, c3, hr⟩ := HP.out j hlt
      have hbB : b < B := HS.out b hb
      have q0 := (HB1.out.cell (p := ⟨b, off + j * 4, none⟩) hbB).trans c0
      have q1 := (HB1.out.cell (p := ⟨b, off + j * 4 + 1, none⟩) hbB).trans c1
      have q2 := (HB1.out.cell (p := ⟨b, off + j * 4 + 2, none⟩) hbB).trans c2
      have q3 := (HB1.out.cell (p := ⟨b, off + j * 4 + 3, none⟩) hbB).trans c3
      obtain ⟨f', rfl⟩ : ∃ f', f = f' + 1 := by
        cases f with
        | zero => exact hr.elim
        | succ f' => exact ⟨f', rfl⟩
      have hd1 := varsL_drop ac l j hlt
      have hd2 := sizes_drop l j hlt
      have hsz := HB1.out.size
      obtain ⟨p, hp⟩ : ∃ p, l[j] = p := ⟨_, rfl⟩
      rw [hp] at hr hd1 hd2
      clear hp
      obtain ⟨k1, n1, s1, pl⟩ := p
      obtain ⟨A1, cp1, hv, g1, g2, g3, g4, g5, g6⟩ := hr
      simp only [Value.agg.injEq, Array.mk.injEq, List.cons.injEq, and_true] at hv
      obtain ⟨rfl, rfl, rfl, rfl⟩ := hv
      have HFA := Lib.hid (HF1.out.alloc (.cells #[.int .i64 k1, .int .i64 n1, .string s1, .slice A1 pl.length cp1] 28))
      have HBA := Lib.hid (HB1.out.alloc (Nat.le_trans hBw hsz) (.cells #[.int .i64 k1, .int .i64 n1, .string s1, .slice A1 pl.length cp1] 28))
      have HD1 := Lib.hid (HR1.out.trans hd1)
      have hz3 := HZ.out
      rw [hd2, size_node] at hz3
      have HZ3 := Lib.hid hz3
      have HG6 := Lib.hid g6
      have HG2 := Lib.hid g2
      have HG5 := Lib.hid g5
      clear c0 c1 c2 c3 hd1 hd2 hz3 g6 g2 g3 g4 g5
      by_cases e0 : k1 = 0
      · subst e0
        have HACC : Hid (res = varsL (addVar ac n1) (l.drop (j + 1))) := by
          show _ = _
          rw [HD1.out, Tm.vars, if_pos rfl]
        clear HD1 g1 HG6 HG2
        have HBX := Lib.hid (Box.new wr 28 #[.int .i64 0, .int .i64 n1, .string s1, .slice A1 pl.length cp1])
        obtain ⟨gp, hgp⟩ : ∃ gp, wr.heap.size = gp := ⟨_, rfl⟩
        have HSP : Hid ((wr.alloc (.cells #[.int .i64 0, .int .i64 n1, .string s1, .slice A1 pl.length cp1] 28)).heap.size = gp + 1) := by show _ = _; rw [← hgp]; simp
        obtain ⟨wp, hwp⟩ : ∃ wp, wr.alloc (.cells #[.int .i64 0, .int .i64 n1, .string s1, .slice A1 pl.length cp1] 28) = wp := ⟨_, rfl⟩
        have HGP := Lib.hid hgp
        have HWP := Lib.hid hwp
        rw [hwp] at HBX HFA HBA HSP
        rw [hgp] at HBX
        clear hgp hwp
        obtain ⟨bb, hbb⟩ : ∃ bb, decide (n1 ∈ ac) = bb := ⟨_, rfl⟩
        have hlk := fun m => (HFA.out.drewN m).look n1 HG5.out
        rw [hbb] at hlk
        have HBB := Lib.hid hbb
        clear hbb
        have fc : wp.cell? ⟨F, 1, none⟩ = some (.map (some M)) := HFA.out.box.cell 1
        have nc : wp.cell? ⟨gp, 1, none⟩ = some (.int .i64 n1) := HBX.out.cell 1
        cases bb
        · have HAV : Hid (addVar ac n1 = ac ++ [n1]) := by
            show _ = _
            unfold addVar
            rw [if_neg (by simpa using HBB.out)]
          rw [HAV.out] at HACC
          go_upto_region 5 with (fail)
          rw [HWP.out, HGP.out]
          go_quiet (fail)
          clear hlk
          go_upto_region 6 with (fail)
          obtain ⟨w6, hrun, hmap6, hgr6⟩ := (HFA.out.drewN (nq + 1)).upd HG5.out (by have := HZ3.out; unfold maxLen; omega)
          have hf6 : Fr (fun k => k = M) wp w6 := ((Fr.refl _ wp).drewN (nq + 1)).trans (Fr.of_grown hgr6 (fun _ _ e => (Option.some.inj e).symm))
          have hgM : gp ≠ M := by
            rintro rfl
            obtain ⟨es, cl, hm, _⟩ := HFA.out.map
            have := HBX.out
            unfold Box at this
            rw [this] at hm
            simp at hm
          have HBF6 := Lib.hid (HFA.out.box.fr hf6 HFA.out.neFM)
          have HBX6 := Lib.hid (HBX.out.fr hf6 hgM)
          have HRW6 := Lib.hid (own_fr HFA.out.row hf6 (fun k e x => HFA.out.neRM (by rw [e, x])))
          have HB6 := Lib.hid (HBA.out.trans (hf6.below (by have := HBA.out.size; omega) (fun k e => by rw [e]; exact HFA.out.newM)))
          have HM6 := Lib.hid hmap6
          have HZ6 := Lib.hid hf6.size
          have fc6 : w6.cell? ⟨F, 1, none⟩ = some (.map (some M)) := HBF6.out.cell 1
          have nc6 : w6.cell? ⟨gp, 1, none⟩ = some (.int .i64 n1) := HBX6.out.cell 1
          clear hmap6 hgr6 hf6 hgM
          go_region_held3 (fun w' => w'.cell? ⟨F, 1, none⟩ = some (.map (some M)) ∧ w'.cell? ⟨gp, 1, none⟩ = some (.int .i64 n1))
            (first | exact ⟨fc6, nc6⟩ | exact ⟨fc, nc⟩) (fail)
          clear hrun
          go_upto_region 7 with (fail)
          obtain ⟨A9, c9, hus, _⟩ := own_form HRW6.out
          subst hus
          have f6 : w6.cell? ⟨F, 0, none⟩ = some (.slice A9 ac.length c9) := HBF6.out.cell 0
          have f6a : ∀ o, (w6.alloc o).cell? ⟨F, 0, none⟩ = some (.slice A9 ac.length c9) := fun o => (HBF6.out.alloc o).cell 0
          have n6a : ∀ o, (w6.alloc o).cell? ⟨gp, 1, none⟩ = some (.int .i64 n1) := fun o => (HBX6.out.alloc o).cell 1
          have HOA := Lib.hid (fun o => own_fr (own_drewN HRW6.out 1) (S := fun _ => False) ((Fr.refl _ (w6.drewN 1)).alloc o) (fun _ _ x => x))
          have hbw6 : B ≤ w6.heap.size := by have := HZ6.out; have := HFA.out.newF; have := HFA.out.box.lt; omega
          have HBA6 := Lib.hid (fun o => (bel_drewN2 HB6.out 1).alloc (show B ≤ (w6.drewN 1).heap.size from hbw6) o)
          have hbw7 : B ≤ ((w6.drewN 1).alloc (.cells #[.int .i64 n1] 3)).heap.size := by simp; omega
          have HLN : Hid (ac.length + 1 ≤ 1000000) := by show _ ≤ _; have := HZ3.out; omega
          clear fc nc fc6
          go_region_law (first
            | (refine step_own_at _ rfl (.tmp 37) (.tmp 40) 41 rfl B 3 i0 (.int .i64 0) 1 8 Tryd.underlying41 HI.out HZ0.out HZ1.out HZ2.out rfl (by decide) (.slice A9 ac.length c9) ac.length _ rfl (HOA.out _) ⟨w6.heap.size, 0, none⟩ 1 1 [.int .i64 n1] rfl rfl (cell_one_new _ _ _) (one_word _ _) (by have := HLN.out; unfold maxLen; omega) (by have := HLN.out; omega) (by simp; omega) ?_; intro v8 w8 hown8 hgr8 hloc8; have hf8 := Fr.of_grown (S := fun b => Value.ownBlock (.slice A9 ac.length c9) = some b) hgr8 (fun _ _ e => e); have HBF8 := Lib.hid (((HBF6.out.drewN 1).alloc _).fr hf8 (fun e => absurd (own_ne_box_of HRW6.out HBF6.out e) (by decide))); have f8 : w8.cell? ⟨F, 0, none⟩ = some (.slice A9 ac.length c9) := HBF8.out.cell 0; have z8 : w8.frozen? ⟨F, 0, none⟩ = false := HBF8.out.frozen 0; obtain ⟨A8, cp8, hv8, _⟩ := own_form hown8; subst hv8))
          all_goals
            have HFD := Lib.hid (fd_store HFA.out HBF8.out HM6.out HG5.out hf8 (fun e => HFA.out.neRM e) HM6.out.lt hown8)
            have HB8 := Lib.hid ((HBA6.out (.cells #[.int .i64 n1] 3)).trans (hf8.below hbw7 (fun b e => (HRW6.out.lt b e).1)))
            clear f8 z8 f6 f6a n6a nc6 hown8 hgr8 hloc8 hf8
            go_wp2_with (fail)
            go_roundw
            case rel => exact ⟨j + 1, _, _, by go_num, by omega, HACC, by have := HZ3.out; show _ ≤ _; simp; omega, HFD, HB8.out.setCell (p := ⟨F, 0, none⟩) HFA.out.newF _⟩
            case measure => simp [intOf]; omega
        · have HAV : Hid (addVar ac n1 = ac) := by
            show _ = _
            unfold addVar
            rw [if_pos (by simpa using HBB.out)]
          rw [HAV.out] at HACC
          go_upto_region 5 with (fail)
          rw [HWP.out, HGP.out]
          go_quiet (fail)
          clear hlk
          go_wp2_with (fail)
          go_roundw
          case rel => exact ⟨j + 1, ac, us, by go_num, by omega, HACC, by have := HZ3.out; show _ ≤ _; omega, HFA.out.drewN _, (⟨HBA.out.os, HBA.out.tape, HBA.out.output, HBA.out.size, HBA.out.block⟩ : Below B w (wp.drewN _))⟩
          case measure => simp [intOf]; omega
      · have e0' : (k1 == 0) = false := by simpa using e0
        have HACC : Hid (res = varsL (varsL ac pl) (l.drop (j + 1))) := by
          show _ = _
          rw [HD1.out, Tm.vars, if_neg e0]
        have hvl := varsL_len ac pl
        have HC := Lib.hid (IH.out f' rfl pl A1 cp1 (wr.alloc (.cells #[.int .i64 k1, .int .i64 n1, .string s1, .slice A1 pl.length cp1] 28)) S ac us g1 HG2.out (fun i hi => by
          obtain ⟨b, off, v0, v1, v2, v3, hA, hb', c0, c1, c2, c3, hr⟩ := HG6.out i hi
          have hbB := HS.out b hb'
          exact ⟨b, off, v0, v1, v2, v3, hA, hb', (HBA.out.cell (p := ⟨b, _, none⟩) hbB).trans c0, (HBA.out.cell (p := ⟨b, _, none⟩) hbB).trans c1, (HBA.out.cell (p := ⟨b, _, none⟩) hbB).trans c2, (HBA.out.cell (p := ⟨b, _, none⟩) hbB).trans c3, hr.below HBA.out HS.out⟩) HS.out HFA.out (by have := HZ3.out; omega))
        have HVL : Hid ((varsL ac pl).length + sizes (l.drop (j + 1)) ≤ 1000000) := by
          show _ ≤ _
          have := HZ3.out
          omega
        clear hvl HD1 g1 e0
        go_wp2_with (go_at_call 27; refine HC.out.mono ?_; rintro e w5 ⟨rfl, ⟨us5, hF5⟩, hb5⟩; have HF5 := Lib.hid hF5; have HB5 := Lib.hid (HBA.out.trans hb5); clear hF5 hb5)
        go_roundw
        case rel => exact ⟨j + 1, _, us5, by go_num, by omega, HACC, HVL, HF5, HB5⟩
        case measure => simp [intOf]; omega
    · have hge : (l.length : Int) ≤ (j : Int) := by omega
      have HX : Hid (res = ac) := by
        show _ = _
        rw [HR1.out, List.drop_eq_nil_of_le (by omega), varsL]
      go_wp2_with fail
      exact bodyPost_ret (v := .tuple #[]) (by simp [results, Tryd.results27, go_sem]) rfl (by rw [HX.out]; exact ⟨rfl, ⟨us, HF1.out⟩, HB1.out⟩)

end Go.Proofs.YtkfmagbaklikmaaDoor
