/-
  4 texts in one (LRow LinkR LinkY LinkLA). Conditions: those of each theorem.
-/
import Derived.Test.YtclkdlegogjnbaaGreatDoorCards
import Derived.Test.YtclkdlegogjnbaaGreatDoorTie
import Derived.Test.YtclkdlegogjnbaaGreatDoorQ13
import Derived.Test.YtclkdlegogjnbaaGreatDoorChecked
import Derived.Lib.LaidTab
import Derived.LaidSub
import Derived.LaidLaws
import Derived.MakeChecks
import Derived.LaidMore
import Derived.Deep.DeepHandedRow
import Derived.Test.YtclkdlegogjnbaaGreatDoorQ26
import Derived.Test.YtclkdlegogjnbaaGreatDoorQ41
namespace Go.Proofs.YtclkdlegogjnbaaGreatDoor
open Go.ChangeShapes Go.WideShapes Go.ChangeAt Go.RowKit
set_option linter.unusedVariables false
set_option linter.unusedSimpArgs false

theorem gPow : Tryz.prog.globalNamed "internal/strconv.uint64pow10" = some 1 := by kernel_rfl
theorem gPowType : (Tryz.prog.globals[1]?).map (·.type) = some 190 := by kernel_rfl
theorem cellsPow : Tryz.prog.cellsOf 190 = 20 := by kernel_rfl
theorem cellsWord : Tryz.prog.cellsOf 98 = 1 := by kernel_rfl
theorem gNam : Tryz.prog.globalNamed "resolvent/code.names" = some 0 := by kernel_rfl
theorem gNamType : (Tryz.prog.globals[0]?).map (·.type) = some 145 := by kernel_rfl
theorem cellsNam : Tryz.prog.cellsOf 145 = 27 := by kernel_rfl
theorem cellsStr : Tryz.prog.cellsOf 9 = 1 := by kernel_rfl
theorem gSyn : Tryz.prog.globalNamed "strconv.ErrSyntax" = some 7 := by kernel_rfl
theorem gSynType : (Tryz.prog.globals[7]?).map (·.type) = some 155 := by kernel_rfl
theorem gRan : Tryz.prog.globalNamed "strconv.ErrRange" = some 8 := by kernel_rfl
theorem gRanType : (Tryz.prog.globals[8]?).map (·.type) = some 155 := by kernel_rfl

theorem pow_of {W : World} (h : laidMetH Tryz.prog Rows.linkRenamesRow.laid W) : Lib.TabIs Tryz.prog W "internal/strconv.uint64pow10" .u64 Lib.pow10Tab := by
  have h1 := laidMetH.filter (fun x => x.1 == "internal/strconv.uint64pow10") h
  have e : Rows.linkRenamesRow.laid.filter (fun x => x.1 == "internal/strconv.uint64pow10") = [("internal/strconv.uint64pow10", Lib.tabData .u64 Lib.pow10Tab)] := by kernel_rfl
  rw [e, MakeChecks.laidMetH_plain _ _ _ (by kernel_rfl)] at h1
  exact Lib.tabIs_of_head (rest := []) gPow gPowType Tryz.underlying190 Tryz.underlying98 cellsWord cellsPow h1

theorem iface_of_head {W : World} {name nm : String} {d : DataW Unit} {rest : List (String × DataW Unit)} {g : Nat} (hg : Tryz.prog.globalNamed name = some g) (hty : (Tryz.prog.globals[g]?).map (·.type) = some 155)
    (h : laidMet Tryz.prog ((name, .iface nm d) :: rest) W) : ∃ te pe, W.cell? ⟨g, 0, none⟩ = some (.iface te pe) := by
  obtain ⟨ps, ⟨g', t', cs, fuel, p, q, hg', ht', hvar, hd, _, _⟩, _⟩ := h
  obtain rfl := Option.some.inj (hg.symm.trans hg')
  obtain rfl := Option.some.inj (hty.symm.trans ht')
  obtain ⟨_, u, v, hcs, _, _⟩ := iface_of_trod Tryz.underlying155 hd
  refine ⟨u, v, ?_⟩
  have := World.var?_cell hg hvar 0
  rw [this]
  have e : cs = #[.iface u v] := by
    cases cs
    simp_all
  rw [e]
  rfl
theorem syn_of {W : World} (h : laidMetH Tryz.prog Rows.linkRenamesRow.laid W) : ∃ te pe, W.cell? ⟨7, 0, none⟩ = some (.iface te pe) := by
  have h1 := laidMetH.filter (fun x => x.1 == "strconv.ErrSyntax") h
  have e : Rows.linkRenamesRow.laid.filter (fun x => x.1 == "strconv.ErrSyntax") = [("strconv.ErrSyntax", Rows.laid_strconv_ErrSyntax)] := by kernel_rfl
  rw [e, MakeChecks.laidMetH_plain _ _ _ (by kernel_rfl)] at h1
  exact iface_of_head (rest := []) gSyn gSynType h1
theorem ran_of {W : World} (h : laidMetH Tryz.prog Rows.linkRenamesRow.laid W) : ∃ te pe, W.cell? ⟨8, 0, none⟩ = some (.iface te pe) := by
  have h1 := laidMetH.filter (fun x => x.1 == "strconv.ErrRange") h
  have e : Rows.linkRenamesRow.laid.filter (fun x => x.1 == "strconv.ErrRange") = [("strconv.ErrRange", Rows.laid_strconv_ErrRange)] := by kernel_rfl
  rw [e, MakeChecks.laidMetH_plain _ _ _ (by kernel_rfl)] at h1
  exact iface_of_head (rest := []) gRan gRanType h1

/-- An array of strings that reads as these texts holds them, cell for cell. -/
theorem cells_of_strs {H : Type} {enc : TypeId × Value → H} {P : Program} {w : World} {base : Nat} {sp : Nat → Bool} {held : Bool} {fuel : Nat} {t e : TypeId} {n : Nat} {cs : List Value} {zs : List (List UInt8)} {p : List MemPlace}
    (ht : P.underlying t = some (.array n e)) (he : P.underlying e = some .string) (hce : P.cellsOf e = 1) (hct : P.cellsOf t = n)
    (h : DataW.trod enc P w base sp held fuel t cs = some (.agg (zs.map fun z => .lit (.string z)), p)) : cs = zs.map fun z => Value.string ⟨z.toArray⟩ := by
  cases fuel with
  | zero => simp [DataW.trod] at h
  | succ fuel =>
    simp only [DataW.trod, ht, hce, hct, Nat.mul_one] at h
    split at h
    · rename_i hl
      obtain ⟨xs, hm, hx⟩ := Option.map_eq_some_iff.1 h
      have hxs : xs.map (·.1) = zs.map fun z => (DataW.lit (.string z) : DataW H) := by
        have := congrArg Prod.fst hx
        simpa using this
      have hxl : xs.length = n := by simpa using Lib.mapM_length hm
      have hzl : zs.length = n := by
        have := congrArg List.length hxs
        simp at this
        omega
      apply List.ext_getElem?
      intro i
      by_cases hi : i < n
      · obtain ⟨b, hb, hf⟩ := Lib.mapM_at hm i i (by simp [hi])
        obtain ⟨z, hc, rfl, _⟩ := DataW.trod_string he hf
        have h1 : cs[i]? = some (.string z) := by
          have := congrArg (·[0]?) hc
          simpa [List.getElem?_take, List.getElem?_drop] using this
        have h2 : (xs.map (·.1))[i]? = some (DataW.lit (.string z.data.toList) : DataW H) := by simp [hb]
        rw [hxs] at h2
        simp only [List.getElem?_map, Option.map_eq_some_iff, DataW.lit.injEq, Lit.string.injEq] at h2
        obtain ⟨z', hz', hz''⟩ := h2
        have h3 : (⟨z'.toArray⟩ : ByteArray) = z := by rw [hz'']
        rw [h1, List.getElem?_map, hz', Option.map_some, h3]
      · rw [List.getElem?_eq_none (by omega), List.getElem?_eq_none (by simp; omega)]
    · cases h

theorem names_of {W : World} (h : laidMetH Tryz.prog Rows.linkRenamesRow.laid W) : NamesAt W := by
  have h1 := laidMetH.filter (fun x => x.1 == "resolvent/code.names") h
  have e : Rows.linkRenamesRow.laid.filter (fun x => x.1 == "resolvent/code.names") = [("resolvent/code.names", .agg (nameList.map fun z => .lit (.string z)))] := by kernel_rfl
  rw [e, MakeChecks.laidMetH_plain _ _ _ (by kernel_rfl)] at h1
  obtain ⟨ps, ⟨g', t', cs, fuel, p, q, hg', ht', hvar, hd, _, _⟩, _⟩ := h1
  obtain rfl := Option.some.inj (gNam.symm.trans hg')
  obtain rfl := Option.some.inj (gNamType.symm.trans ht')
  have hcs := cells_of_strs Tryz.underlying145 Tryz.underlying9 cellsStr cellsNam hd
  have hce : cs = namesArr := by
    apply Array.toList_inj.1
    rw [hcs]
    unfold namesArr
    rfl
  unfold World.var? at hvar
  rw [gNam, Option.bind_some] at hvar
  split at hvar
  · rename_i cs' t fr hx
    injection hvar with hvar
    subst hvar
    rw [hce] at hx
    exact ⟨t, fr, hx⟩
  · cases hvar

theorem laid_of {W : World} (h : laidMetH Tryz.prog Rows.linkRenamesRow.laid W) (hsh : W.ShapedOpen Tryz.prog) : LaidC W.heap.size W := by
  obtain ⟨te, pe, h1⟩ := syn_of h
  obtain ⟨tf, pf, h2⟩ := ran_of h
  obtain ⟨m, h3⟩ := Tryz.laysM147.s1_3 W hsh
  exact ⟨Lib.tabBelow_of_tabIs (pow_of h), ⟨te, pe, h1⟩, ⟨tf, pf, h2⟩, names_of h, ⟨m, h3⟩, ⟨World.block_lt_of_cell? W _ h1, World.block_lt_of_cell? W _ h2, (names_of h).lt, World.block_lt_of_cell? W _ h3⟩, Nat.le_refl _⟩

/-- The table of package unicode/utf8 that the rows list as well. -/
def firstCells : Array Value := (Go.Pinned.utf8FirstZ.map fun z => Value.int .u8 ((z : Nat) : Int)).toArray
def layFirst : Obj → Obj
  | .cells _ t fr => .cells firstCells t fr
  | o => o
/-- A world for the witness: the heap that the door's own run leaves, with that table. -/
noncomputable def laidWorld (os : Os) : World :=
  { World.doorLaid Tryz.prog 198 os with heap := (World.doorLaid Tryz.prog 198 os).heap.modify 5 layFirst }
theorem laidOutTryz : laidOutB Tryz.prog = true := by kernel_rfl
theorem ownTryz : ownKnob Tryz.prog.godebug = none := by kernel_rfl
end Go.Proofs.YtclkdlegogjnbaaGreatDoor

namespace Go.Proofs.YtclkdlegogjnbaaGreatDoor
open Go
set_option linter.unusedVariables false
set_option linter.unusedSimpArgs false

theorem firstErr_ne : ∀ (l : List Ob) (n : Nat) (p : Int × Nat), firstErr n l = some p → p.1 ≠ 0
  | [], n, p, h => by cases h
  | y :: l, n, p, h => by
    unfold firstErr at h
    split at h
    · exact firstErr_ne l (n + 1) p h
    · rename_i hy
      injection h with h
      rw [← h]
      exact hy
/-- What is so where nothing is wrong. -/
theorem link_ok {l : List Ob} (h : (linkOf l).2.1 = 0) : ∃ o, linkOf l = (o, 0, -1) ∧ (∀ x ∈ l, checkOf x = 0) ∧ foldJ 0 emptyOb l = .ok o ∧ unknownJ l o.preds = none ∧ bigO o = false := by
  unfold linkOf at h ⊢
  cases h1 : firstErr 0 l with
  | some p =>
    rw [h1] at h
    exact absurd h (firstErr_ne l 0 p h1)
  | none =>
    rw [h1] at h
    simp only at h ⊢
    cases h2 : foldJ 0 emptyOb l with
    | error n => rw [h2] at h; cases h
    | ok o =>
      rw [h2] at h
      simp only at h ⊢
      cases h3 : unknownJ l o.preds with
      | some k => rw [h3] at h; cases h
      | none =>
        rw [h3] at h
        simp only at h ⊢
        by_cases hb : bigO o = true
        · rw [if_pos hb] at h; cases h
        · rw [if_neg hb]
          exact ⟨o, rfl, firstErr_none l 0 h1, rfl, h3, by simpa using hb⟩
/-- The code of all, behind so many instructions. -/
def codeJ (W : Ob) : Nat → List Ob → List Ins
  | _, [] => []
  | base, x :: l => x.code.map (insJ W x (base : Int)) ++ codeJ W (base + x.code.length) l
theorem codeJ_len (W : Ob) : ∀ (l : List Ob) (base : Nat), (codeJ W base l).length = (l.map fun x => x.code.length).sum
  | [], base => rfl
  | x :: l, base => by simp [codeJ, codeJ_len W l]
theorem insJ_final {o x F : Ob} {P : List Pr} (base : Int) (ha : ∃ m, F.atoms = x.atoms.foldl addTo o.atoms ++ m) (hf : ∃ m, F.funs = x.funs.foldl addTo o.funs ++ m) (hp : ∃ Q, F.preds.map called = P.map called ++ Q) {b2 : Int} (hP : predsJ b2 o.preds x.preds = some P) (hx : checkOf x = 0) :
    x.code.map (insJ ⟨x.atoms.foldl addTo o.atoms, x.funs.foldl addTo o.funs, P, []⟩ x base) = x.code.map (insJ F x base) := by
  obtain ⟨a, ha⟩ := ha
  obtain ⟨b, hb⟩ := hf
  obtain ⟨Q, hQ⟩ := hp
  have hk := ok_of hx
  obtain ⟨m1, hm1, hm1'⟩ := addAll_grow x.atoms o.atoms
  obtain ⟨m2, hm2, hm2'⟩ := addAll_grow x.funs o.funs
  apply List.map_congr_left
  intro i hi
  symm
  apply insJ_same
  · intro s hs
    rw [ha]
    simp only
    exact place_app a (by rw [hm1]; exact hm1' s hs)
  · intro s hs
    rw [hb]
    simp only
    exact place_app b (by rw [hm2]; exact hm2' s hs)
  · intro p hp
    simp only
    have hin := predsJ_has x.preds o.preds P hP p hp
    have hfind := findFrom_mem p.1 p.2.1 0 P hin
    have hcut : ∃ T : List Pr, T.map called = Q := by
      refine ⟨F.preds.drop P.length, ?_⟩
      have := congrArg (List.drop P.length) hQ
      rw [← List.map_drop] at this
      rw [this]
      simp
    obtain ⟨T, hT⟩ := hcut
    rw [findFrom_called p.1 p.2.1 0 F.preds (P ++ T) (by rw [hQ, List.map_append, hT]), findFrom_app p.1 p.2.1 0 P T hfind]
  · exact hk.code i hi
theorem fold_code : ∀ (l : List Ob) (n : Nat) (o F : Ob), foldJ n o l = .ok F → (∀ x ∈ l, checkOf x = 0) → F.code = o.code ++ codeJ F o.code.length l ∧ (∀ x ∈ l, (∀ s ∈ x.atoms, s ∈ F.atoms) ∧ (∀ f ∈ x.funs, f ∈ F.funs) ∧ ∀ p ∈ x.preds, called p ∈ F.preds.map called)
  | [], n, o, F, h, _ => by
    unfold foldJ at h
    injection h with h
    rw [← h]
    exact ⟨by simp [codeJ], by simp⟩
  | x :: l, n, o, F, h, hc => by
    unfold foldJ at h
    cases h1 : joinJ o x with
    | none => rw [h1] at h; cases h
    | some o1 =>
      rw [h1] at h
      simp only at h
      have hx := hc x (by simp)
      obtain ⟨⟨a, ha⟩, ⟨b, hb⟩, ⟨c, hc2⟩⟩ := foldJ_grow l (n + 1) o1 F h
      obtain ⟨ih1, ih2⟩ := fold_code l (n + 1) o1 F h (fun y hy => hc y (by simp [hy]))
      unfold joinJ at h1
      cases hP : predsJ (o.code.length : Int) o.preds x.preds with
      | none => rw [hP] at h1; cases h1
      | some P =>
        rw [hP] at h1
        injection h1 with h1
        have e1 := insJ_final (o := o) (x := x) (F := F) (P := P) (o.code.length : Int) ⟨a, by rw [ha, ← h1]⟩ ⟨b, by rw [hb, ← h1]⟩ ⟨c, by rw [hc2, ← h1]⟩ hP hx
        have e2 : o1.code = o.code ++ x.code.map (insJ F x (o.code.length : Int)) := by rw [← e1, ← h1]
        have e3 : o1.code.length = o.code.length + x.code.length := by rw [e2]; simp
        refine ⟨?_, fun y hy => ?_⟩
        · rw [ih1, e3, e2, List.append_assoc]
          rfl
        · rcases List.mem_cons.1 hy with rfl | hy
          · obtain ⟨m1, hm1, hm1'⟩ := addAll_grow y.atoms o.atoms
            obtain ⟨m2, hm2, hm2'⟩ := addAll_grow y.funs o.funs
            refine ⟨fun s hs => ?_, fun s hs => ?_, fun p hp => ?_⟩
            · rw [ha, ← h1]
              simp only
              exact List.mem_append_left _ (by rw [hm1]; exact hm1' s hs)
            · rw [hb, ← h1]
              simp only
              exact List.mem_append_left _ (by rw [hm2]; exact hm2' s hs)
            · rw [hc2, ← h1]
              simp only
              exact List.mem_append_left _ (predsJ_has _ _ _ hP p hp)
          · exact ih2 y hy

theorem dup_of {o : Ob} (h : checkOf o = 0) : o.atoms.Nodup ∧ o.funs.Nodup ∧ (o.preds.map called).Nodup := by
  unfold checkOf at h
  split at h
  · cases h
  · split at h
    · cases h
    · split at h
      · cases h
      · rename_i h3
        unfold dupB twiceB at h3
        simp only [Bool.or_eq_true, Bool.not_eq_true', decide_eq_false_iff_not, not_or, Decidable.not_not] at h3
        exact ⟨h3.1.1, h3.1.2, h3.2⟩
theorem addAll_self {α : Type} [DecidableEq α] : ∀ (xs l : List α), (l ++ xs).Nodup → xs.foldl addTo l = l ++ xs
  | [], l, _ => by simp
  | x :: xs, l, h => by
    have hn : x ∉ l := fun hx => by
      rw [List.nodup_append] at h
      exact h.2.2 x hx x (by simp) rfl
    have e : addTo l x = l ++ [x] := if_neg hn
    rw [List.foldl_cons, e, addAll_self xs (l ++ [x]) (by rw [List.append_assoc]; exact h), List.append_assoc]
    rfl
theorem setE_new : ∀ (P : List Pr) (q : Pr) (e : Int), setE (P ++ [q]) P.length e = P ++ [(q.1, q.2.1, e)]
  | [], q, e => rfl
  | p :: P, q, e => by
    have ih := setE_new P q e
    unfold setE at ih ⊢
    simp only [List.cons_append, List.length_cons, List.modify_succ_cons]
    rw [ih]
theorem predsJ_self : ∀ (ps P : List Pr), ((P ++ ps).map called).Nodup → predsJ 0 P ps = some (P ++ ps)
  | [], P, _ => by simp [predsJ]
  | p :: ps, P, h => by
    have hn : called p ∉ P.map called := fun hx => by
      rw [List.map_append, List.nodup_append] at h
      exact h.2.2 _ hx (called p) (by simp) rfl
    have e : predJ 0 P p = some (P ++ [p]) := by
      rcases predIn_at P (called p) with ⟨hm, _⟩ | ⟨_, he⟩
      · exact absurd hm hn
      · unfold predJ
        rw [he]
        simp only
        obtain ⟨a, b, c⟩ := p
        by_cases hp : c = 65535
        · rw [if_pos hp, hp]
          rfl
        · rw [if_neg hp, if_neg, show ((P.length : Int)).toNat = P.length from rfl, setE_new, Int.zero_add]
          · rfl
          · simp [called]
    unfold predsJ
    rw [e]
    simp only
    rw [predsJ_self ps (P ++ [p]) (by rw [List.append_assoc]; exact h), List.append_assoc]
    rfl
theorem argsJ_id {f : Int → Int → Int} : ∀ (ks xs : List Int), ks.length ≤ xs.length → (∀ j, j < ks.length → f (ks.getD j 0) (xs.getD j 0) = xs.getD j 0) → argsJ f ks xs = xs
  | [], xs, _, _ => rfl
  | k :: ks, [], hl, _ => by simp at hl
  | k :: ks, x :: xs, hl, h => by
    unfold argsJ
    have h0 : f k x = x := h 0 (by simp)
    rw [argsJ_id ks (x :: xs).tail (by simpa using hl) (fun j hj => h (j + 1) (by simpa using hj))]
    show f k x :: xs = x :: xs
    rw [h0]
theorem place_self {α : Type} [DecidableEq α] {l : List α} (h : l.Nodup) (i : Nat) (hi : i < l.length) : placeOf l l[i] = i := by
  unfold placeOf
  rw [List.findIdx_eq hi]
  refine ⟨by simp, fun j hj => ?_⟩
  have := List.pairwise_iff_getElem.1 h j i (by omega) hi hj
  simpa using this
theorem find_self {P : List Pr} (h : (P.map called).Nodup) (i : Nat) (hi : i < P.length) : findFrom P[i].1 P[i].2.1 0 P = (i : Int) := by
  have h0 := findFrom_mem P[i].1 P[i].2.1 0 P (List.mem_map.2 ⟨P[i], List.getElem_mem hi, rfl⟩)
  obtain ⟨j, hj, h1, h2, h3⟩ := findFrom_at _ _ 0 P h0
  have e : called P[j] = called P[i] := by unfold called; rw [h2, h3]
  have hij : j = i := by
    rcases Nat.lt_trichotomy j i with hl | hl | hl
    · have := List.pairwise_iff_getElem.1 h j i (by simpa using hj) (by simpa using hi) hl
      simp only [List.getElem_map] at this
      exact absurd e this
    · exact hl
    · have := List.pairwise_iff_getElem.1 h i j (by simpa using hi) (by simpa using hj) hl
      simp only [List.getElem_map] at this
      exact absurd e.symm this
  rw [h1, hij]
  simp
theorem insJ_self {x W : Ob} (hx : checkOf x = 0) (hW : W.atoms = x.atoms ∧ W.funs = x.funs ∧ W.preds = x.preds) {i : Ins} (hi : i ∈ x.code) : insJ W x 0 i = i := by
  have hk := ok_of hx
  obtain ⟨n1, n2, n3⟩ := dup_of hx
  obtain ⟨i1, i2, i3, i4⟩ := insErr_ne (hk.code i hi)
  rw [List.all_eq_true] at i4
  unfold insJ
  rw [argsJ_id _ _ (by rw [argOf_len]; exact ops_few i.1) (fun j hj => ?_), insOf_argOf]
  have ht := i4 j (List.mem_range.2 hj)
  generalize (opsOf i.1).getD j 0 = kd at ht ⊢
  generalize (argOf i).getD j 0 = n at ht ⊢
  unfold opdJ
  unfold thereB at ht
  rw [hW.1, hW.2.1, hW.2.2]
  split
  · rename_i hkd
    rw [if_pos hkd] at ht
    have ht := of_decide_eq_true ht
    have hl : n.toNat < x.atoms.length := by omega
    rw [List.getD_eq_getElem?_getD, List.getElem?_eq_getElem hl, Option.getD_some, place_self n1 _ hl]
    omega
  · rename_i hk1
    rw [if_neg hk1] at ht
    split
    · rename_i hkd
      rw [if_pos hkd] at ht
      have ht := of_decide_eq_true ht
      have hl : n.toNat < x.funs.length := by omega
      rw [List.getD_eq_getElem?_getD, List.getElem?_eq_getElem hl, Option.getD_some, place_self n2 _ hl]
      omega
    · rename_i hk2
      rw [if_neg hk2] at ht
      split
      · rename_i hkd
        rw [if_pos hkd] at ht
        have ht := of_decide_eq_true ht
        have hl : n.toNat < x.preds.length := by omega
        rw [List.getD_eq_getElem?_getD, List.getElem?_eq_getElem hl, Option.getD_some, find_self n3 _ hl]
        omega
      · split
        · split <;> omega
        · rfl
theorem join_self {x : Ob} (hx : checkOf x = 0) : joinJ emptyOb x = some x := by
  obtain ⟨n1, n2, n3⟩ := dup_of hx
  have e1 := addAll_self x.atoms [] (by simpa using n1)
  have e2 := addAll_self x.funs [] (by simpa using n2)
  have e3 := predsJ_self x.preds [] (by simpa using n3)
  rw [List.nil_append] at e1 e2 e3
  unfold joinJ
  rw [show ((emptyOb.code.length : Nat) : Int) = 0 from rfl, show emptyOb.preds = ([] : List Pr) from rfl, e3]
  simp only
  rw [show emptyOb.atoms = ([] : List ByteArray) from rfl, show emptyOb.funs = ([] : List (ByteArray × Int)) from rfl, show emptyOb.code = ([] : List Ins) from rfl, e1, e2, List.nil_append]
  have e4 : x.code.map (insJ ⟨x.atoms, x.funs, x.preds, []⟩ x 0) = x.code := by
    conv => rhs; rw [← List.map_id x.code]
    exact List.map_congr_left fun i hi => insJ_self hx ⟨rfl, rfl, rfl⟩ hi
  rw [e4]
theorem unknown_none {l : List Ob} : ∀ {P : List Pr}, (∀ p ∈ P, 0 ≤ homeOf l (called p)) → (unknownJ l P = none ↔ ∀ p ∈ P, p.2.2 ≠ 65535)
  | [], _ => by simp [unknownJ]
  | p :: P, h => by
    unfold unknownJ
    have hp := h p (by simp)
    by_cases he : p.2.2 = 65535
    · rw [if_pos ⟨he, hp⟩]
      simp [he]
    · rw [if_neg (fun hh => he hh.1), unknown_none (fun q hq => h q (by simp [hq]))]
      simp [he]
theorem home_fold {l : List Ob} {F : Ob} (h : foldJ 0 emptyOb l = .ok F) (hc : ∀ x ∈ l, checkOf x = 0) (hl : l.length ≤ 60) : ∀ p ∈ F.preds, 0 ≤ homeOf l (called p) := by
  rcases fold_sim l [] emptyOb startLk start_sim hc (by simpa using hl) with ⟨n, e1, _⟩ | ⟨o, s, e1, _, hs⟩
  · rw [List.length_nil, h] at e1
    cases e1
  · rw [List.length_nil, h] at e1
    injection e1 with e1
    rw [List.nil_append] at hs
    rw [← e1] at hs
    intro p hp
    have := firstOf_lt (hs.all (called p) (List.mem_map_of_mem hp))
    have e : homeOf l (called p) = (firstOf l (called p) : Int) := by
      unfold homeOf
      exact if_pos this
    rw [e]
    omega
/-- It is no matter whether the first two are made one first. -/
theorem link_parts {a b c ab : Ob} (h : linkOf [a, b] = (ab, 0, -1)) : (linkOf [ab, c]).1 = (linkOf [a, b, c]).1 ∧ (linkOf [ab, c]).2.1 = (linkOf [a, b, c]).2.1 := by
  obtain ⟨o, h1, hc, h2, h3, h4⟩ := link_ok (l := [a, b]) (by rw [h])
  rw [h] at h1
  have hab : ab = o := by injection h1
  subst hab
  have hca := hc a (by simp)
  have hcb := hc b (by simp)
  have hck : checkOf ab = 0 := by have := link_check [a, b] (by simp); rw [h] at this; exact this
  by_cases hcc : checkOf c = 0
  · have f1 : firstErr 0 [ab, c] = none := by simp [firstErr, hck, hcc]
    have f2 : firstErr 0 [a, b, c] = none := by simp [firstErr, hca, hcb, hcc]
    have g1 : foldJ 0 emptyOb [ab, c] = foldJ 1 ab [c] := by
      conv => lhs; unfold foldJ
      rw [join_self hck]
    have g2 : foldJ 0 emptyOb [a, b, c] = foldJ 2 ab [c] := by
      unfold foldJ at h2 ⊢
      cases j1 : joinJ emptyOb a with
      | none => rw [j1] at h2; cases h2
      | some o1 =>
        rw [j1] at h2
        simp only at h2 ⊢
        unfold foldJ at h2 ⊢
        cases j2 : joinJ o1 b with
        | none => rw [j2] at h2; cases h2
        | some o2 =>
          rw [j2] at h2
          simp only at h2 ⊢
          have h2 : foldJ (0 + 1 + 1) o2 [] = .ok ab := h2
          unfold foldJ at h2
          injection h2 with h2
          subst h2
          conv => rhs; unfold foldJ
          rfl
    cases j : joinJ ab c with
    | none =>
      have k1 : foldJ 1 ab [c] = .error 1 := by unfold foldJ; rw [j]
      have k2 : foldJ 2 ab [c] = .error 2 := by unfold foldJ; rw [j]
      unfold linkOf
      rw [f1, f2, g1, g2, k1, k2]
      exact ⟨rfl, rfl⟩
    | some F =>
      have k1 : foldJ 1 ab [c] = .ok F := by unfold foldJ; rw [j]; rfl
      have k2 : foldJ 2 ab [c] = .ok F := by unfold foldJ; rw [j]; rfl
      have u1 := unknown_none (home_fold (g1.trans k1) (by simp [hck, hcc]) (by simp))
      have u2 := unknown_none (home_fold (g2.trans k2) (by simp [hca, hcb, hcc]) (by simp))
      unfold linkOf
      rw [f1, f2, g1, g2, k1, k2]
      simp only
      cases w1 : unknownJ [ab, c] F.preds with
      | none =>
        rw [u2.2 (u1.1 w1)]
        exact ⟨rfl, rfl⟩
      | some x =>
        cases w2 : unknownJ [a, b, c] F.preds with
        | none =>
          rw [u1.2 (u2.1 w2)] at w1
          cases w1
        | some y => exact ⟨rfl, rfl⟩
  · have f1 : firstErr 0 [ab, c] = some (checkOf c, 1) := by simp [firstErr, hck, hcc]
    have f2 : firstErr 0 [a, b, c] = some (checkOf c, 2) := by simp [firstErr, hca, hcb, hcc]
    unfold linkOf
    rw [f1, f2]
    exact ⟨rfl, rfl⟩

end Go.Proofs.YtclkdlegogjnbaaGreatDoor

namespace Go.Proofs.YtclkdlegogjnbaaGreatDoor
open Go Go.RowKit Go.WideShapes Go.ChangeShapes
set_option linter.unusedVariables false
set_option linter.unusedSimpArgs false

/-- Both operands can be looked at. -/
def TwoOk (a b : Ob) (kind x y : Int) : Prop :=
  (kind = 3 → (0 ≤ x ∧ x < a.atoms.length) ∧ 0 ≤ y ∧ y < b.atoms.length) ∧ (kind = 4 → (0 ≤ x ∧ x < a.funs.length) ∧ 0 ≤ y ∧ y < b.funs.length) ∧ (kind = 7 → (0 ≤ x ∧ x < a.preds.length) ∧ 0 ≤ y ∧ y < b.preds.length) ∧ (kind = 8 → (0 ≤ x ∧ x ≤ 65535) ∧ 0 ≤ y ∧ y ≤ 1000000000)

end Go.Proofs.YtclkdlegogjnbaaGreatDoor

namespace Go.Proofs.YtclkdlegogjnbaaGreatDoor
open Go Go.RowKit Go.WideShapes Go.ChangeShapes
set_option linter.unusedVariables false
set_option linter.unusedSimpArgs false

/-- How many instructions stand ahead of the k-th object's. -/
def baseAt (l : List Ob) (k : Nat) : Nat := ((l.take k).map fun x => x.code.length).sum
theorem codeJ_at (W : Ob) : ∀ (l : List Ob) (base k : Nat) (hk : k < l.length) (j : Nat) (hj : j < l[k].code.length), (codeJ W base l)[baseAt l k + j]? = some (insJ W l[k] ((base + baseAt l k : Nat) : Int) l[k].code[j])
  | [], _, k, hk, _, _ => by simp at hk
  | x :: l, base, 0, hk, j, hj => by
    unfold codeJ baseAt
    simp only [List.take_zero, List.map_nil, List.sum_nil, Nat.zero_add, Nat.add_zero]
    rw [List.getElem?_append_left (by simpa using hj), List.getElem?_map]
    have hj' : j < x.code.length := hj
    rw [List.getElem?_eq_getElem hj']
    rfl
  | x :: l, base, k + 1, hk, j, hj => by
    have ih := codeJ_at W l (base + x.code.length) k (by simpa using hk) j (by simpa using hj)
    have e : baseAt (x :: l) (k + 1) = x.code.length + baseAt l k := by simp [baseAt]
    unfold codeJ
    rw [e, List.getElem?_append_right (by simp; omega), List.length_map, show x.code.length + baseAt l k + j - x.code.length = baseAt l k + j by omega, ih]
    simp only [List.getElem_cons_succ]
    congr 3
    omega
/-- What is known of objects that were made one. -/
structure Made (l : List Ob) (o : Ob) : Prop where
  checks : ∀ x ∈ l, checkOf x = 0
  code : o.code = codeJ o 0 l
  has : ∀ x ∈ l, (∀ s ∈ x.atoms, s ∈ o.atoms) ∧ (∀ f ∈ x.funs, f ∈ o.funs) ∧ ∀ p ∈ x.preds, called p ∈ o.preds.map called
  check : checkOf o = 0
theorem made_of {l : List Ob} (hl : l.length ≤ 50) (h : (linkP l).2.1 = 0) : ∃ o, linkP l = (o, 0, -1) ∧ Made l o := by
  rw [link_eq l (by omega)] at h ⊢
  obtain ⟨o, h1, h2, h3, _, _⟩ := link_ok h
  obtain ⟨h4, h5⟩ := fold_code l 0 emptyOb o h3 h2
  refine ⟨o, h1, h2, by simpa [emptyOb] using h4, h5, ?_⟩
  have := link_check l hl
  rw [h1] at this
  exact this
/-- An instruction of a made one object. -/
theorem Made.at_ {l : List Ob} {o : Ob} (h : Made l o) (k : Nat) (hk : k < l.length) (j : Nat) (hj : j < l[k].code.length) : baseAt l k + j < o.code.length ∧ o.code[baseAt l k + j]? = some (insJ o l[k] ((baseAt l k : Nat) : Int) l[k].code[j]) := by
  have h1 := codeJ_at o l 0 k hk j hj
  rw [← h.code, Nat.zero_add] at h1
  exact ⟨(List.getElem?_eq_some_iff.1 h1).1, h1⟩
theorem Made.len {l : List Ob} {o : Ob} (h : Made l o) : o.code.length = baseAt l l.length := by
  have h1 := codeJ_len o l 0
  rw [← h.code] at h1
  rw [h1]
  unfold baseAt
  rw [List.take_length]
theorem Made.two {l : List Ob} {o : Ob} (h : Made l o) (k : Nat) (hk : k < l.length) (base : Int) (hb : 0 ≤ base ∧ base ≤ 1000000) (i : Ins) (hi : i ∈ l[k].code) (j : Nat) (hj : j < (opsOf i.1).length) :
    TwoOk l[k] o ((opsOf i.1).getD j 0) ((argOf i).getD j 0) ((argOf (insJ o l[k] base i)).getD j 0) := by
  obtain ⟨h1, h2, h3⟩ := h.has _ (List.getElem_mem hk)
  have hfew := ops_few i.1
  have ho := ops_of (h.checks _ (List.getElem_mem hk)) i hi j hj
  rw [insJ_arg _ _ _ _ j (by omega), if_pos hj]
  generalize (opsOf i.1).getD j 0 = kd at ho ⊢
  generalize (argOf i).getD j 0 = n at ho ⊢
  obtain ⟨o3, o4, o7, o8⟩ := ho
  refine ⟨fun e => ⟨o3 e, ?_⟩, fun e => ⟨o4 e, ?_⟩, fun e => ⟨o7 e, ?_⟩, fun e => ⟨o8 e, ?_⟩⟩
  · have hn := o3 e
    unfold opdJ
    rw [if_pos e]
    have hm := h1 (l[k].atoms.getD n.toNat ⟨#[]⟩) (by rw [List.getD_eq_getElem?_getD, List.getElem?_eq_getElem (by omega)]; exact List.getElem_mem _)
    have := place_lt hm
    omega
  · have hn := o4 e
    unfold opdJ
    rw [if_neg (by omega), if_pos e]
    have hm := h2 (l[k].funs.getD n.toNat (⟨#[]⟩, 0)) (by rw [List.getD_eq_getElem?_getD, List.getElem?_eq_getElem (by omega)]; exact List.getElem_mem _)
    have := place_lt hm
    omega
  · have hn := o7 e
    unfold opdJ
    rw [if_neg (by omega), if_neg (by omega), if_pos e]
    have hm := h3 (l[k].preds.getD n.toNat (⟨#[]⟩, 0, 0)) (by rw [List.getD_eq_getElem?_getD, List.getElem?_eq_getElem (by omega)]; exact List.getElem_mem _)
    obtain ⟨q, hq, h4, _⟩ := findFrom_at _ _ 0 o.preds (findFrom_mem _ _ 0 o.preds hm)
    rw [h4]
    omega
  · have hn := o8 e
    unfold opdJ
    rw [if_neg (by omega), if_neg (by omega), if_neg (by omega), if_pos e]
    split <;> omega
end Go.Proofs.YtclkdlegogjnbaaGreatDoor
