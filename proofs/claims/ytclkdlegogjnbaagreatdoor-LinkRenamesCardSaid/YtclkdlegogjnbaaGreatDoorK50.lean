/-
  4 texts in one (LRow LinkR LinkS LinkY). Conditions: those of each theorem.
-/
import Derived.Test.YtclkdlegogjnbaaGreatDoorCards
import Derived.Test.YtclkdlegogjnbaaGreatDoorTie
import Derived.Test.YtclkdlegogjnbaaGreatDoorK14
import Derived.Test.YtclkdlegogjnbaaGreatDoorChecked
import Derived.Lib.LaidTab
import Derived.LaidSub
import Derived.LaidLaws
import Derived.MakeChecks
import Derived.LaidMore
import Derived.Deep.DeepHandedRow
import Derived.Test.YtclkdlegogjnbaaGreatDoorK27
import Derived.Test.YtclkdlegogjnbaaGreatDoorK43
namespace Go.Proofs.YtclkdlegogjnbaaGreatDoor
open Go.ChangeShapes Go.WideShapes Go.ChangeAt Go.RowKit
set_option linter.unusedVariables false
set_option linter.unusedSimpArgs false

theorem gPow : Tryz.prog.globalNamed "internal/strconv.uint64pow10" = some 1 := by kernel_rfl
theorem gPowType : (Tryz.prog.globals[1]?).map (·.type) = some 190 := by kernel_rfl
theorem cellsPow : Tryz.prog.cellsOf 190 = 20 := by kernel_rfl
theorem cellsWord : Tryz.prog.cellsOf 98 = 1 := by kernel_rfl
theorem gNam : Tryz.prog.globalNamed "resolvent/code.names" = some 0 := by kernel_rfl
theorem gNamType : (Tryz.prog.globals[0]?).map (·.type) = some 145 := by kernel_rfl
theorem cellsNam : Tryz.prog.cellsOf 145 = 27 := by kernel_rfl
theorem cellsStr : Tryz.prog.cellsOf 9 = 1 := by kernel_rfl
theorem gSyn : Tryz.prog.globalNamed "strconv.ErrSyntax" = some 7 := by kernel_rfl
theorem gSynType : (Tryz.prog.globals[7]?).map (·.type) = some 155 := by kernel_rfl
theorem gRan : Tryz.prog.globalNamed "strconv.ErrRange" = some 8 := by kernel_rfl
theorem gRanType : (Tryz.prog.globals[8]?).map (·.type) = some 155 := by kernel_rfl

theorem pow_of {W : World} (h : laidMetH Tryz.prog Rows.linkRenamesRow.laid W) : Lib.TabIs Tryz.prog W "internal/strconv.uint64pow10" .u64 Lib.pow10Tab := by
  have h1 := laidMetH.filter (fun x => x.1 == "internal/strconv.uint64pow10") h
  have e : Rows.linkRenamesRow.laid.filter (fun x => x.1 == "internal/strconv.uint64pow10") = [("internal/strconv.uint64pow10", Lib.tabData .u64 Lib.pow10Tab)] := by kernel_rfl
  rw [e, MakeChecks.laidMetH_plain _ _ _ (by kernel_rfl)] at h1
  exact Lib.tabIs_of_head (rest := []) gPow gPowType Tryz.underlying190 Tryz.underlying98 cellsWord cellsPow h1

theorem iface_of_head {W : World} {name nm : String} {d : DataW Unit} {rest : List (String × DataW Unit)} {g : Nat} (hg : Tryz.prog.globalNamed name = some g) (hty : (Tryz.prog.globals[g]?).map (·.type) = some 155)
    (h : laidMet Tryz.prog ((name, .iface nm d) :: rest) W) : ∃ te pe, W.cell? ⟨g, 0, none⟩ = some (.iface te pe) := by
  obtain ⟨ps, ⟨g', t', cs, fuel, p, q, hg', ht', hvar, hd, _, _⟩, _⟩ := h
  obtain rfl := Option.some.inj (hg.symm.trans hg')
  obtain rfl := Option.some.inj (hty.symm.trans ht')
  obtain ⟨_, u, v, hcs, _, _⟩ := iface_of_trod Tryz.underlying155 hd
  refine ⟨u, v, ?_⟩
  have := World.var?_cell hg hvar 0
  rw [this]
  have e : cs = #[.iface u v] := by
    cases cs
    simp_all
  rw [e]
  rfl
theorem syn_of {W : World} (h : laidMetH Tryz.prog Rows.linkRenamesRow.laid W) : ∃ te pe, W.cell? ⟨7, 0, none⟩ = some (.iface te pe) := by
  have h1 := laidMetH.filter (fun x => x.1 == "strconv.ErrSyntax") h
  have e : Rows.linkRenamesRow.laid.filter (fun x => x.1 == "strconv.ErrSyntax") = [("strconv.ErrSyntax", Rows.laid_strconv_ErrSyntax)] := by kernel_rfl
  rw [e, MakeChecks.laidMetH_plain _ _ _ (by kernel_rfl)] at h1
  exact iface_of_head (rest := []) gSyn gSynType h1
theorem ran_of {W : World} (h : laidMetH Tryz.prog Rows.linkRenamesRow.laid W) : ∃ te pe, W.cell? ⟨8, 0, none⟩ = some (.iface te pe) := by
  have h1 := laidMetH.filter (fun x => x.1 == "strconv.ErrRange") h
  have e : Rows.linkRenamesRow.laid.filter (fun x => x.1 == "strconv.ErrRange") = [("strconv.ErrRange", Rows.laid_strconv_ErrRange)] := by kernel_rfl
  rw [e, MakeChecks.laidMetH_plain _ _ _ (by kernel_rfl)] at h1
  exact iface_of_head (rest := []) gRan gRanType h1

/-- An array of strings that reads as these texts holds them, cell for cell. -/
theorem cells_of_strs {H : Type} {enc : TypeId × Value → H} {P : Program} {w : World} {base : Nat} {sp : Nat → Bool} {held : Bool} {fuel : Nat} {t e : TypeId} {n : Nat} {cs : List Value} {zs : List (List UInt8)} {p : List MemPlace}
    (ht : P.underlying t = some (.array n e)) (he : P.underlying e = some .string) (hce : P.cellsOf e = 1) (hct : P.cellsOf t = n)
    (h : DataW.trod enc P w base sp held fuel t cs = some (.agg (zs.map fun z => .lit (.string z)), p)) : cs = zs.map fun z => Value.string ⟨z.toArray⟩ := by
  cases fuel with
  | zero => simp [DataW.trod] at h
  | succ fuel =>
    simp only [DataW.trod, ht, hce, hct, Nat.mul_one] at h
    split at h
    · rename_i hl
      obtain ⟨xs, hm, hx⟩ := Option.map_eq_some_iff.1 h
      have hxs : xs.map (·.1) = zs.map fun z => (DataW.lit (.string z) : DataW H) := by
        have := congrArg Prod.fst hx
        simpa using this
      have hxl : xs.length = n := by simpa using Lib.mapM_length hm
      have hzl : zs.length = n := by
        have := congrArg List.length hxs
        simp at this
        omega
      apply List.ext_getElem?
      intro i
      by_cases hi : i < n
      · obtain ⟨b, hb, hf⟩ := Lib.mapM_at hm i i (by simp [hi])
        obtain ⟨z, hc, rfl, _⟩ := DataW.trod_string he hf
        have h1 : cs[i]? = some (.string z) := by
          have := congrArg (·[0]?) hc
          simpa [List.getElem?_take, List.getElem?_drop] using this
        have h2 : (xs.map (·.1))[i]? = some (DataW.lit (.string z.data.toList) : DataW H) := by simp [hb]
        rw [hxs] at h2
        simp only [List.getElem?_map, Option.map_eq_some_iff, DataW.lit.injEq, Lit.string.injEq] at h2
        obtain ⟨z', hz', hz''⟩ := h2
        have h3 : (⟨z'.toArray⟩ : ByteArray) = z := by rw [hz'']
        rw [h1, List.getElem?_map, hz', Option.map_some, h3]
      · rw [List.getElem?_eq_none (by omega), List.getElem?_eq_none (by simp; omega)]
    · cases h

theorem names_of {W : World} (h : laidMetH Tryz.prog Rows.linkRenamesRow.laid W) : NamesAt W := by
  have h1 := laidMetH.filter (fun x => x.1 == "resolvent/code.names") h
  have e : Rows.linkRenamesRow.laid.filter (fun x => x.1 == "resolvent/code.names") = [("resolvent/code.names", .agg (nameList.map fun z => .lit (.string z)))] := by kernel_rfl
  rw [e, MakeChecks.laidMetH_plain _ _ _ (by kernel_rfl)] at h1
  obtain ⟨ps, ⟨g', t', cs, fuel, p, q, hg', ht', hvar, hd, _, _⟩, _⟩ := h1
  obtain rfl := Option.some.inj (gNam.symm.trans hg')
  obtain rfl := Option.some.inj (gNamType.symm.trans ht')
  have hcs := cells_of_strs Tryz.underlying145 Tryz.underlying9 cellsStr cellsNam hd
  have hce : cs = namesArr := by
    apply Array.toList_inj.1
    rw [hcs]
    unfold namesArr
    rfl
  unfold World.var? at hvar
  rw [gNam, Option.bind_some] at hvar
  split at hvar
  · rename_i cs' t fr hx
    injection hvar with hvar
    subst hvar
    rw [hce] at hx
    exact ⟨t, fr, hx⟩
  · cases hvar

theorem laid_of {W : World} (h : laidMetH Tryz.prog Rows.linkRenamesRow.laid W) (hsh : W.ShapedOpen Tryz.prog) : LaidC W.heap.size W := by
  obtain ⟨te, pe, h1⟩ := syn_of h
  obtain ⟨tf, pf, h2⟩ := ran_of h
  obtain ⟨m, h3⟩ := Tryz.laysM147.s1_3 W hsh
  exact ⟨Lib.tabBelow_of_tabIs (pow_of h), ⟨te, pe, h1⟩, ⟨tf, pf, h2⟩, names_of h, ⟨m, h3⟩, ⟨World.block_lt_of_cell? W _ h1, World.block_lt_of_cell? W _ h2, (names_of h).lt, World.block_lt_of_cell? W _ h3⟩, Nat.le_refl _⟩

/-- The table of package unicode/utf8 that the rows list as well. -/
def firstCells : Array Value := (Go.Pinned.utf8FirstZ.map fun z => Value.int .u8 ((z : Nat) : Int)).toArray
def layFirst : Obj → Obj
  | .cells _ t fr => .cells firstCells t fr
  | o => o
/-- A world for the witness: the heap that the door's own run leaves, with that table. -/
noncomputable def laidWorld (os : Os) : World :=
  { World.doorLaid Tryz.prog 198 os with heap := (World.doorLaid Tryz.prog 198 os).heap.modify 5 layFirst }
theorem laidOutTryz : laidOutB Tryz.prog = true := by kernel_rfl
theorem ownTryz : ownKnob Tryz.prog.godebug = none := by kernel_rfl
end Go.Proofs.YtclkdlegogjnbaaGreatDoor

namespace Go.Proofs.YtclkdlegogjnbaaGreatDoor
open Go
set_option linter.unusedVariables false
set_option linter.unusedSimpArgs false

theorem firstErr_ne : ∀ (l : List Ob) (n : Nat) (p : Int × Nat), firstErr n l = some p → p.1 ≠ 0
  | [], n, p, h => by cases h
  | y :: l, n, p, h => by
    unfold firstErr at h
    split at h
    · exact firstErr_ne l (n + 1) p h
    · rename_i hy
      injection h with h
      rw [← h]
      exact hy
/-- What is so where nothing is wrong. -/
theorem link_ok {l : List Ob} (h : (linkOf l).2.1 = 0) : ∃ o, linkOf l = (o, 0, -1) ∧ (∀ x ∈ l, checkOf x = 0) ∧ foldJ 0 emptyOb l = .ok o ∧ unknownJ l o.preds = none ∧ bigO o = false := by
  unfold linkOf at h ⊢
  cases h1 : firstErr 0 l with
  | some p =>
    rw [h1] at h
    exact absurd h (firstErr_ne l 0 p h1)
  | none =>
    rw [h1] at h
    simp only at h ⊢
    cases h2 : foldJ 0 emptyOb l with
    | error n => rw [h2] at h; cases h
    | ok o =>
      rw [h2] at h
      simp only at h ⊢
      cases h3 : unknownJ l o.preds with
      | some k => rw [h3] at h; cases h
      | none =>
        rw [h3] at h
        simp only at h ⊢
        by_cases hb : bigO o = true
        · rw [if_pos hb] at h; cases h
        · rw [if_neg hb]
          exact ⟨o, rfl, firstErr_none l 0 h1, rfl, h3, by simpa using hb⟩
/-- The code of all, behind so many instructions. -/
def codeJ (W : Ob) : Nat → List Ob → List Ins
  | _, [] => []
  | base, x :: l => x.code.map (insJ W x (base : Int)) ++ codeJ W (base + x.code.length) l
theorem codeJ_len (W : Ob) : ∀ (l : List Ob) (base : Nat), (codeJ W base l).length = (l.map fun x => x.code.length).sum
  | [], base => rfl
  | x :: l, base => by simp [codeJ, codeJ_len W l]
theorem insJ_final {o x F : Ob} {P : List Pr} (base : Int) (ha : ∃ m, F.atoms = x.atoms.foldl addTo o.atoms ++ m) (hf : ∃ m, F.funs = x.funs.foldl addTo o.funs ++ m) (hp : ∃ Q, F.preds.map called = P.map called ++ Q) {b2 : Int} (hP : predsJ b2 o.preds x.preds = some P) (hx : checkOf x = 0) :
    x.code.map (insJ ⟨x.atoms.foldl addTo o.atoms, x.funs.foldl addTo o.funs, P, []⟩ x base) = x.code.map (insJ F x base) := by
  obtain ⟨a, ha⟩ := ha
  obtain ⟨b, hb⟩ := hf
  obtain ⟨Q, hQ⟩ := hp
  have hk := ok_of hx
  obtain ⟨m1, hm1, hm1'⟩ := addAll_grow x.atoms o.atoms
  obtain ⟨m2, hm2, hm2'⟩ := addAll_grow x.funs o.funs
  apply List.map_congr_left
  intro i hi
  symm
  apply insJ_same
  · intro s hs
    rw [ha]
    simp only
    exact place_app a (by rw [hm1]; exact hm1' s hs)
  · intro s hs
    rw [hb]
    simp only
    exact place_app b (by rw [hm2]; exact hm2' s hs)
  · intro p hp
    simp only
    have hin := predsJ_has x.preds o.preds P hP p hp
    have hfind := findFrom_mem p.1 p.2.1 0 P hin
    have hcut : ∃ T : List Pr, T.map called = Q := by
      refine ⟨F.preds.drop P.length, ?_⟩
      have := congrArg (List.drop P.length) hQ
      rw [← List.map_drop] at this
      rw [this]
      simp
    obtain ⟨T, hT⟩ := hcut
    rw [findFrom_called p.1 p.2.1 0 F.preds (P ++ T) (by rw [hQ, List.map_append, hT]), findFrom_app p.1 p.2.1 0 P T hfind]
  · exact hk.code i hi
theorem fold_code : ∀ (l : List Ob) (n : Nat) (o F : Ob), foldJ n o l = .ok F → (∀ x ∈ l, checkOf x = 0) → F.code = o.code ++ codeJ F o.code.length l ∧ (∀ x ∈ l, (∀ s ∈ x.atoms, s ∈ F.atoms) ∧ (∀ f ∈ x.funs, f ∈ F.funs) ∧ ∀ p ∈ x.preds, called p ∈ F.preds.map called)
  | [], n, o, F, h, _ => by
    unfold foldJ at h
    injection h with h
    rw [← h]
    exact ⟨by simp [codeJ], by simp⟩
  | x :: l, n, o, F, h, hc => by
    unfold foldJ at h
    cases h1 : joinJ o x with
    | none => rw [h1] at h; cases h
    | some o1 =>
      rw [h1] at h
      simp only at h
      have hx := hc x (by simp)
      obtain ⟨⟨a, ha⟩, ⟨b, hb⟩, ⟨c, hc2⟩⟩ := foldJ_grow l (n + 1) o1 F h
      obtain ⟨ih1, ih2⟩ := fold_code l (n + 1) o1 F h (fun y hy => hc y (by simp [hy]))
      unfold joinJ at h1
      cases hP : predsJ (o.code.length : Int) o.preds x.preds with
      | none => rw [hP] at h1; cases h1
      | some P =>
        rw [hP] at h1
        injection h1 with h1
        have e1 := insJ_final (o := o) (x := x) (F := F) (P := P) (o.code.length : Int) ⟨a, by rw [ha, ← h1]⟩ ⟨b, by rw [hb, ← h1]⟩ ⟨c, by rw [hc2, ← h1]⟩ hP hx
        have e2 : o1.code = o.code ++ x.code.map (insJ F x (o.code.length : Int)) := by rw [← e1, ← h1]
        have e3 : o1.code.length = o.code.length + x.code.length := by rw [e2]; simp
        refine ⟨?_, fun y hy => ?_⟩
        · rw [ih1, e3, e2, List.append_assoc]
          rfl
        · rcases List.mem_cons.1 hy with rfl | hy
          · obtain ⟨m1, hm1, hm1'⟩ := addAll_grow y.atoms o.atoms
            obtain ⟨m2, hm2, hm2'⟩ := addAll_grow y.funs o.funs
            refine ⟨fun s hs => ?_, fun s hs => ?_, fun p hp => ?_⟩
            · rw [ha, ← h1]
              simp only
              exact List.mem_append_left _ (by rw [hm1]; exact hm1' s hs)
            · rw [hb, ← h1]
              simp only
              exact List.mem_append_left _ (by rw [hm2]; exact hm2' s hs)
            · rw [hc2, ← h1]
              simp only
              exact List.mem_append_left _ (predsJ_has _ _ _ hP p hp)
          · exact ih2 y hy

end Go.Proofs.YtclkdlegogjnbaaGreatDoor

namespace Go.Proofs.YtclkdlegogjnbaaGreatDoor
open Go
set_option linter.unusedVariables false
set_option linter.unusedSimpArgs false

/-- Does an operand name the same in two objects, the second one's code behind so many instructions? -/
def meansB (a b : Ob) (kind x y base : Int) : Bool :=
  if kind = 3 then decide (a.atoms.getD x.toNat ⟨#[]⟩ = b.atoms.getD y.toNat ⟨#[]⟩)
  else if kind = 4 then decide (a.funs.getD x.toNat (⟨#[]⟩, 0) = b.funs.getD y.toNat (⟨#[]⟩, 0))
  else if kind = 7 then decide (called (a.preds.getD x.toNat (⟨#[]⟩, 0, 0)) = called (b.preds.getD y.toNat (⟨#[]⟩, 0, 0)))
  else if kind = 8 then decide ((x = 65535 ∧ y = 65535) ∨ (x ≠ 65535 ∧ y = x + base))
  else decide (x = y)
theorem place_get {α : Type} [DecidableEq α] {l : List α} {x d : α} (h : x ∈ l) : l.getD (placeOf l x) d = x := by
  have hl := place_lt h
  rw [List.getD_eq_getElem?_getD, List.getElem?_eq_getElem hl, Option.getD_some]
  have h2 : decide (l[placeOf l x] = x) = true := List.findIdx_getElem (w := hl)
  exact of_decide_eq_true h2
theorem means_ok {x W : Ob} {base : Int} {i : Ins} (h : insErr x.atoms.length x.funs.length x.preds.length x.code.length i = 0) (ha : ∀ s ∈ x.atoms, s ∈ W.atoms) (hf : ∀ s ∈ x.funs, s ∈ W.funs)
    (hp : ∀ p ∈ x.preds, called p ∈ W.preds.map called) (j : Nat) (hj : j < (opsOf i.1).length) :
    meansB x W ((opsOf i.1).getD j 0) ((argOf i).getD j 0) ((argOf (insJ W x base i)).getD j 0) base = true := by
  obtain ⟨i1, i2, i3, i4⟩ := insErr_ne h
  have hfew := ops_few i.1
  rw [List.all_eq_true] at i4
  rw [insJ_arg _ _ _ _ j (by omega), if_pos hj]
  have ht := i4 j (List.mem_range.2 hj)
  generalize (opsOf i.1).getD j 0 = kd at ht ⊢
  generalize (argOf i).getD j 0 = n at ht ⊢
  obtain ⟨y, hy⟩ : ∃ y, opdJ W x base kd n = y := ⟨_, rfl⟩
  rw [hy]
  unfold opdJ at hy
  unfold meansB
  unfold thereB at ht
  by_cases h3 : kd = 3
  · rw [if_pos h3] at ht hy ⊢
    have ht := of_decide_eq_true ht
    have hm := ha (x.atoms.getD n.toNat ⟨#[]⟩) (by rw [List.getD_eq_getElem?_getD, List.getElem?_eq_getElem (by omega)]; exact List.getElem_mem _)
    rw [← hy, Int.toNat_natCast, place_get hm]
    simp
  rw [if_neg h3] at ht hy ⊢
  by_cases h4 : kd = 4
  · rw [if_pos h4] at ht hy ⊢
    have ht := of_decide_eq_true ht
    have hm := hf (x.funs.getD n.toNat (⟨#[]⟩, 0)) (by rw [List.getD_eq_getElem?_getD, List.getElem?_eq_getElem (by omega)]; exact List.getElem_mem _)
    rw [← hy, Int.toNat_natCast, place_get hm]
    simp
  rw [if_neg h4] at ht hy ⊢
  by_cases h7 : kd = 7
  · rw [if_pos h7] at ht hy ⊢
    have ht := of_decide_eq_true ht
    have hm := hp (x.preds.getD n.toNat (⟨#[]⟩, 0, 0)) (by rw [List.getD_eq_getElem?_getD, List.getElem?_eq_getElem (by omega)]; exact List.getElem_mem _)
    obtain ⟨k, hk', h1, h2, h3⟩ := findFrom_at _ _ 0 W.preds (findFrom_mem _ _ 0 W.preds hm)
    have hyk : y.toNat = k := by omega
    have e : W.preds.getD y.toNat (⟨#[]⟩, 0, 0) = W.preds[k] := by
      rw [hyk, List.getD_eq_getElem?_getD, List.getElem?_eq_getElem hk', Option.getD_some]
    rw [e]
    apply decide_eq_true
    unfold called
    rw [h2, h3]
  rw [if_neg h7] at ht hy ⊢
  by_cases h8 : kd = 8
  · rw [if_pos h8] at hy ⊢
    apply decide_eq_true
    by_cases hn : n = 65535
    · rw [if_neg (by simp [hn])] at hy
      exact .inl ⟨hn, by omega⟩
    · rw [if_pos hn] at hy
      exact .inr ⟨hn, by omega⟩
  · rw [if_neg h8] at hy ⊢
    exact decide_eq_true hy

end Go.Proofs.YtclkdlegogjnbaaGreatDoor

namespace Go.Proofs.YtclkdlegogjnbaaGreatDoor
open Go Go.RowKit Go.WideShapes Go.ChangeShapes
set_option linter.unusedVariables false
set_option linter.unusedSimpArgs false

/-- Both operands can be looked at. -/
def TwoOk (a b : Ob) (kind x y : Int) : Prop :=
  (kind = 3 → (0 ≤ x ∧ x < a.atoms.length) ∧ 0 ≤ y ∧ y < b.atoms.length) ∧ (kind = 4 → (0 ≤ x ∧ x < a.funs.length) ∧ 0 ≤ y ∧ y < b.funs.length) ∧ (kind = 7 → (0 ≤ x ∧ x < a.preds.length) ∧ 0 ≤ y ∧ y < b.preds.length) ∧ (kind = 8 → (0 ≤ x ∧ x ≤ 65535) ∧ 0 ≤ y ∧ y ≤ 1000000000)

set_option maxRecDepth 100000 in
set_option maxHeartbeats 16000000 in
theorem means_any (a b : Ob) (kind x y base : Int) (hb : 0 ≤ base ∧ base ≤ 1000000) (hm : meansB a b kind x y base = true) (ht : TwoOk a b kind x y) (va vf vp vc ua uf up uc : Value) (w : World) (hv : ObAt w va vf vp vc a) (hu : ObAt w ua uf up uc b) :
    Calls Tryz.prog 15 #[.agg #[va, vf, vp, vc], .agg #[ua, uf, up, uc], .int .i64 kind, .int .i64 x, .int .i64 y, .int .i64 base] w fun e w' => e = .returned (.bool true) ∧ Below w.heap.size w w' := by
  obtain ⟨A1, c1, rfl⟩ := CellsAt.form hv.atoms
  obtain ⟨A2, c2, rfl⟩ := CellsAt.form hv.funs
  obtain ⟨A3, c3, rfl⟩ := CellsAt.form hv.preds
  obtain ⟨A4, c4, rfl⟩ := CellsAt.form hv.code
  obtain ⟨B1, d1, rfl⟩ := CellsAt.form hu.atoms
  obtain ⟨B2, d2, rfl⟩ := CellsAt.form hu.funs
  obtain ⟨B3, d3, rfl⟩ := CellsAt.form hu.preds
  obtain ⟨B4, d4, rfl⟩ := CellsAt.form hu.code
  have hb0 := two_below w (.cells #[.slice A1 a.atoms.length c1, .slice A2 a.funs.length c2, .slice A3 a.preds.length c3, .slice A4 a.code.length c4] 29) (.cells #[.slice B1 b.atoms.length d1, .slice B2 b.funs.length d2, .slice B3 b.preds.length d3, .slice B4 b.code.length d4] 29)
  have HB0 := Lib.hid hb0
  have X0 := Lib.hid ((Box.new w 29 #[.slice A1 a.atoms.length c1, .slice A2 a.funs.length c2, .slice A3 a.preds.length c3, .slice A4 a.code.length c4]).alloc (.cells #[.slice B1 b.atoms.length d1, .slice B2 b.funs.length d2, .slice B3 b.preds.length d3, .slice B4 b.code.length d4] 29))
  have Y0 := Lib.hid (Box.new (w.alloc (.cells #[.slice A1 a.atoms.length c1, .slice A2 a.funs.length c2, .slice A3 a.preds.length c3, .slice A4 a.code.length c4] 29)) 29 #[.slice B1 b.atoms.length d1, .slice B2 b.funs.length d2, .slice B3 b.preds.length d3, .slice B4 b.code.length d4])
  rw [World.size_alloc] at Y0
  have HV := Lib.hid (hv.below hb0)
  have HU := Lib.hid (hu.below hb0)
  clear hv hu hb0
  obtain ⟨w1, hw1⟩ : ∃ w1, (w.alloc (.cells #[.slice A1 a.atoms.length c1, .slice A2 a.funs.length c2, .slice A3 a.preds.length c3, .slice A4 a.code.length c4] 29)).alloc (.cells #[.slice B1 b.atoms.length d1, .slice B2 b.funs.length d2, .slice B3 b.preds.length d3, .slice B4 b.code.length d4] 29) = w1 := ⟨_, rfl⟩
  have HW1 := Lib.hid hw1
  rw [hw1] at HB0 X0 Y0 HV HU
  unfold meansB at hm
  by_cases h3 : kind = 3
  · subst h3
    obtain ⟨⟨x0, x1⟩, y0, y1⟩ := ht.1 rfl
    obtain ⟨k, rfl⟩ := Int.eq_ofNat_of_zero_le x0
    obtain ⟨j, rfl⟩ := Int.eq_ofNat_of_zero_le y0
    have hk : k < a.atoms.length := by omega
    have hj : j < b.atoms.length := by omega
    obtain ⟨g1, o1, rfl, _, e1⟩ := atomCell HV.out.atoms k hk
    obtain ⟨g2, o2, rfl, _, e2⟩ := atomCell HU.out.atoms j hj
    rw [if_pos rfl] at hm
    have he : a.atoms[k] = b.atoms[j] := by
      have := of_decide_eq_true hm
      simpa [List.getD_eq_getElem?_getD, List.getElem?_eq_getElem hk, List.getElem?_eq_getElem hj] using this
    rw [← he] at e2
    clear hm he ht
    generalize a.atoms[k] = s at e1 e2
    have p0 := X0.out.cell 0
    have r0 := Y0.out.cell 0
    have t1 : (s.toList = s.toList) = True := by simp
    go_enter Tryz.func15, Tryz.ntmps15
    go_upto_region 3 with (fail)
    clear hw1
    obtain ⟨gx, hgx⟩ : ∃ gx, w.heap.size = gx := ⟨_, rfl⟩
    rw [hgx] at p0 r0 ⊢
    go_quiet (fail)
    go_wp2
    go_ret
    exact ⟨rfl, by first | exact bel_drewN HB0.out _ | (rw [← hgx]; exact bel_drewN HB0.out _)⟩
  by_cases h4 : kind = 4
  · subst h4
    obtain ⟨⟨x0, x1⟩, y0, y1⟩ := ht.2.1 rfl
    obtain ⟨k, rfl⟩ := Int.eq_ofNat_of_zero_le x0
    obtain ⟨j, rfl⟩ := Int.eq_ofNat_of_zero_le y0
    have hk : k < a.funs.length := by omega
    have hj : j < b.funs.length := by omega
    obtain ⟨g1, o1, rfl, _, e1, f1⟩ := funCell HV.out.funs k hk
    obtain ⟨g2, o2, rfl, _, e2, f2⟩ := funCell HU.out.funs j hj
    rw [if_neg (by decide), if_pos rfl] at hm
    have he : a.funs[k] = b.funs[j] := by
      have := of_decide_eq_true hm
      simpa [List.getD_eq_getElem?_getD, List.getElem?_eq_getElem hk, List.getElem?_eq_getElem hj] using this
    rw [← he] at e2 f2
    clear hm he ht h3
    generalize a.funs[k].1 = s at e1 e2
    generalize a.funs[k].2 = z at f1 f2
    have p0 := X0.out.cell 1
    have r0 := Y0.out.cell 1
    go_enter Tryz.func15, Tryz.ntmps15
    go_upto_region 5 with (fail)
    clear hw1
    obtain ⟨gx, hgx⟩ : ∃ gx, w.heap.size = gx := ⟨_, rfl⟩
    rw [hgx] at p0 r0 ⊢
    go_quiet (fail)
    go_wp2
    go_ret
    exact ⟨rfl, by first | exact bel_drewN HB0.out _ | (rw [← hgx]; exact bel_drewN HB0.out _)⟩
  by_cases h7 : kind = 7
  · subst h7
    obtain ⟨⟨x0, x1⟩, y0, y1⟩ := ht.2.2.1 rfl
    obtain ⟨k, rfl⟩ := Int.eq_ofNat_of_zero_le x0
    obtain ⟨j, rfl⟩ := Int.eq_ofNat_of_zero_le y0
    have hk : k < a.preds.length := by omega
    have hj : j < b.preds.length := by omega
    obtain ⟨g1, o1, rfl, _, e1, f1, _⟩ := predCell HV.out.preds k hk
    obtain ⟨g2, o2, rfl, _, e2, f2, _⟩ := predCell HU.out.preds j hj
    rw [if_neg (by decide), if_neg (by decide), if_pos rfl] at hm
    have he : called a.preds[k] = called b.preds[j] := by
      have := of_decide_eq_true hm
      simpa [List.getD_eq_getElem?_getD, List.getElem?_eq_getElem hk, List.getElem?_eq_getElem hj] using this
    unfold called at he
    injection he with he1 he2
    rw [← he1] at e2
    rw [← he2] at f2
    clear hm he1 he2 ht h3 h4
    generalize a.preds[k].1 = s at e1 e2
    generalize a.preds[k].2.1 = z at f1 f2
    have p0 := X0.out.cell 2
    have r0 := Y0.out.cell 2
    have t1 : (s.toList = s.toList) = True := by simp
    go_enter Tryz.func15, Tryz.ntmps15
    go_upto_region 7 with (fail)
    clear hw1
    obtain ⟨gx, hgx⟩ : ∃ gx, w.heap.size = gx := ⟨_, rfl⟩
    rw [hgx] at p0 r0 ⊢
    go_quiet (fail)
    go_wp2
    go_ret
    exact ⟨rfl, by first | exact bel_drewN HB0.out _ | (rw [← hgx]; exact bel_drewN HB0.out _)⟩
  rw [if_neg h3, if_neg h4, if_neg h7] at hm
  have e3 : (kind == 3) = false := by simpa using h3
  have e4 : (kind == 4) = false := by simpa using h4
  have e7 : (kind == 7) = false := by simpa using h7
  clear hw1
  by_cases h8 : kind = 8
  · subst h8
    rw [if_pos rfl] at hm
    have hm := of_decide_eq_true hm
    obtain ⟨⟨x0, x1⟩, y0, y1⟩ := ht.2.2.2 rfl
    clear ht h3 h4 h7 e3 e4 e7
    rcases hm with ⟨rfl, rfl⟩ | ⟨hx, rfl⟩
    · go_enter Tryz.func15, Tryz.ntmps15
      go_wp2
      go_ret
      exact ⟨rfl, by rw [HW1.out]; exact HB0.out⟩
    · have n1 : (x == 65535) = false := by simpa using hx
      have n2 : (x != 65535) = true := by simpa using hx
      have hwr : wrap64 (x + base) = x + base := by rw [wrap64]; omega
      have n3 : (x + base == x + base) = true := by simp
      clear hx
      go_enter Tryz.func15, Tryz.ntmps15
      go_wp2
      go_ret
      exact ⟨rfl, by rw [HW1.out]; exact HB0.out⟩
  · rw [if_neg h8] at hm
    have hm := of_decide_eq_true hm
    have e8 : (kind == 8) = false := by simpa using h8
    subst hm
    have n3 : (x == x) = true := by simp
    clear ht h3 h4 h7 h8
    go_enter Tryz.func15, Tryz.ntmps15
    go_wp2
    go_ret
    exact ⟨rfl, by rw [HW1.out]; exact HB0.out⟩

end Go.Proofs.YtclkdlegogjnbaaGreatDoor
