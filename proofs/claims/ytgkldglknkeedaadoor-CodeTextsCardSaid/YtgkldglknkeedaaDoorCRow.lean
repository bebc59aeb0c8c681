/-
  What the rows' list of package-level variables gives: the world that the contracts of package code ask for.
-/
import Derived.Test.YtgkldglknkeedaaDoorCards
import Derived.Test.YtgkldglknkeedaaDoorTie
import Derived.Test.YtgkldglknkeedaaDoorCodeJ
import Derived.Test.YtgkldglknkeedaaDoorChecked
import Derived.Lib.LaidTab
import Derived.LaidSub
import Derived.LaidLaws
import Derived.MakeChecks
import Derived.LaidMore
import Derived.Deep.DeepHandedRow
namespace Go.Proofs.YtgkldglknkeedaaDoor
open Go.ChangeShapes Go.WideShapes Go.ChangeAt Go.RowKit
set_option linter.unusedVariables false
set_option linter.unusedSimpArgs false

theorem gPow : Tryd.prog.globalNamed "internal/strconv.uint64pow10" = some 4 := by kernel_rfl
theorem gPowType : (Tryd.prog.globals[4]?).map (·.type) = some 104 := by kernel_rfl
theorem cellsPow : Tryd.prog.cellsOf 104 = 20 := by kernel_rfl
theorem cellsWord : Tryd.prog.cellsOf 89 = 1 := by kernel_rfl
theorem gNam : Tryd.prog.globalNamed "resolvent/code.names" = some 0 := by kernel_rfl
theorem gNamType : (Tryd.prog.globals[0]?).map (·.type) = some 48 := by kernel_rfl
theorem cellsNam : Tryd.prog.cellsOf 48 = 27 := by kernel_rfl
theorem cellsStr : Tryd.prog.cellsOf 9 = 1 := by kernel_rfl
theorem gSyn : Tryd.prog.globalNamed "strconv.ErrSyntax" = some 2 := by kernel_rfl
theorem gSynType : (Tryd.prog.globals[2]?).map (·.type) = some 60 := by kernel_rfl
theorem gRan : Tryd.prog.globalNamed "strconv.ErrRange" = some 3 := by kernel_rfl
theorem gRanType : (Tryd.prog.globals[3]?).map (·.type) = some 60 := by kernel_rfl

theorem pow_of {W : World} (h : laidMetH Tryd.prog Rows.codeMakesRow.laid W) : Lib.TabIs Tryd.prog W "internal/strconv.uint64pow10" .u64 Lib.pow10Tab := by
  have h1 := laidMetH.filter (fun x => x.1 == "internal/strconv.uint64pow10") h
  have e : Rows.codeMakesRow.laid.filter (fun x => x.1 == "internal/strconv.uint64pow10") = [("internal/strconv.uint64pow10", Lib.tabData .u64 Lib.pow10Tab)] := by kernel_rfl
  rw [e, MakeChecks.laidMetH_plain _ _ _ (by kernel_rfl)] at h1
  exact Lib.tabIs_of_head (rest := []) gPow gPowType Tryd.underlying104 Tryd.underlying89 cellsWord cellsPow h1

theorem iface_of_head {W : World} {name nm : String} {d : DataW Unit} {rest : List (String × DataW Unit)} {g : Nat} (hg : Tryd.prog.globalNamed name = some g) (hty : (Tryd.prog.globals[g]?).map (·.type) = some 60)
    (h : laidMet Tryd.prog ((name, .iface nm d) :: rest) W) : ∃ te pe, W.cell? ⟨g, 0, none⟩ = some (.iface te pe) := by
  obtain ⟨ps, ⟨g', t', cs, fuel, p, q, hg', ht', hvar, hd, _, _⟩, _⟩ := h
  obtain rfl := Option.some.inj (hg.symm.trans hg')
  obtain rfl := Option.some.inj (hty.symm.trans ht')
  obtain ⟨_, u, v, hcs, _, _⟩ := iface_of_trod Tryd.underlying60 hd
  refine ⟨u, v, ?_⟩
  have := World.var?_cell hg hvar 0
  rw [this]
  have e : cs = #[.iface u v] := by
    cases cs
    simp_all
  rw [e]
  rfl
theorem syn_of {W : World} (h : laidMetH Tryd.prog Rows.codeMakesRow.laid W) : ∃ te pe, W.cell? ⟨2, 0, none⟩ = some (.iface te pe) := by
  have h1 := laidMetH.filter (fun x => x.1 == "strconv.ErrSyntax") h
  have e : Rows.codeMakesRow.laid.filter (fun x => x.1 == "strconv.ErrSyntax") = [("strconv.ErrSyntax", Rows.laid_strconv_ErrSyntax)] := by kernel_rfl
  rw [e, MakeChecks.laidMetH_plain _ _ _ (by kernel_rfl)] at h1
  exact iface_of_head (rest := []) gSyn gSynType h1
theorem ran_of {W : World} (h : laidMetH Tryd.prog Rows.codeMakesRow.laid W) : ∃ te pe, W.cell? ⟨3, 0, none⟩ = some (.iface te pe) := by
  have h1 := laidMetH.filter (fun x => x.1 == "strconv.ErrRange") h
  have e : Rows.codeMakesRow.laid.filter (fun x => x.1 == "strconv.ErrRange") = [("strconv.ErrRange", Rows.laid_strconv_ErrRange)] := by kernel_rfl
  rw [e, MakeChecks.laidMetH_plain _ _ _ (by kernel_rfl)] at h1
  exact iface_of_head (rest := []) gRan gRanType h1

/-- An array of strings that reads as these texts holds them, cell for cell. -/
theorem cells_of_strs {H : Type} {enc : TypeId × Value → H} {P : Program} {w : World} {base : Nat} {sp : Nat → Bool} {held : Bool} {fuel : Nat} {t e : TypeId} {n : Nat} {cs : List Value} {zs : List (List UInt8)} {p : List MemPlace}
    (ht : P.underlying t = some (.array n e)) (he : P.underlying e = some .string) (hce : P.cellsOf e = 1) (hct : P.cellsOf t = n)
    (h : DataW.trod enc P w base sp held fuel t cs = some (.agg (zs.map fun z => .lit (.string z)), p)) : cs = zs.map fun z => Value.string ⟨z.toArray⟩ := by
  cases fuel with
  | zero => simp [DataW.trod] at h
  | succ fuel =>
    simp only [DataW.trod, ht, hce, hct, Nat.mul_one] at h
    split at h
    · rename_i hl
      obtain ⟨xs, hm, hx⟩ := Option.map_eq_some_iff.1 h
      have hxs : xs.map (·.1) = zs.map fun z => (DataW.lit (.string z) : DataW H) := by
        have := congrArg Prod.fst hx
        simpa using this
      have hxl : xs.length = n := by simpa using Lib.mapM_length hm
      have hzl : zs.length = n := by
        have := congrArg List.length hxs
        simp at this
        omega
      apply List.ext_getElem?
      intro i
      by_cases hi : i < n
      · obtain ⟨b, hb, hf⟩ := Lib.mapM_at hm i i (by simp [hi])
        obtain ⟨z, hc, rfl, _⟩ := DataW.trod_string he hf
        have h1 : cs[i]? = some (.string z) := by
          have := congrArg (·[0]?) hc
          simpa [List.getElem?_take, List.getElem?_drop] using this
        have h2 : (xs.map (·.1))[i]? = some (DataW.lit (.string z.data.toList) : DataW H) := by simp [hb]
        rw [hxs] at h2
        simp only [List.getElem?_map, Option.map_eq_some_iff, DataW.lit.injEq, Lit.string.injEq] at h2
        obtain ⟨z', hz', hz''⟩ := h2
        have h3 : (⟨z'.toArray⟩ : ByteArray) = z := by rw [hz'']
        rw [h1, List.getElem?_map, hz', Option.map_some, h3]
      · rw [List.getElem?_eq_none (by omega), List.getElem?_eq_none (by simp; omega)]
    · cases h

theorem names_of {W : World} (h : laidMetH Tryd.prog Rows.codeMakesRow.laid W) : NamesAt W := by
  have h1 := laidMetH.filter (fun x => x.1 == "resolvent/code.names") h
  have e : Rows.codeMakesRow.laid.filter (fun x => x.1 == "resolvent/code.names") = [("resolvent/code.names", .agg (nameList.map fun z => .lit (.string z)))] := by kernel_rfl
  rw [e, MakeChecks.laidMetH_plain _ _ _ (by kernel_rfl)] at h1
  obtain ⟨ps, ⟨g', t', cs, fuel, p, q, hg', ht', hvar, hd, _, _⟩, _⟩ := h1
  obtain rfl := Option.some.inj (gNam.symm.trans hg')
  obtain rfl := Option.some.inj (gNamType.symm.trans ht')
  have hcs := cells_of_strs Tryd.underlying48 Tryd.underlying9 cellsStr cellsNam hd
  have hce : cs = namesArr := by
    apply Array.toList_inj.1
    rw [hcs]
    unfold namesArr
    rfl
  unfold World.var? at hvar
  rw [gNam, Option.bind_some] at hvar
  split at hvar
  · rename_i cs' t fr hx
    injection hvar with hvar
    subst hvar
    rw [hce] at hx
    exact ⟨t, fr, hx⟩
  · cases hvar

theorem laid_of {W : World} (h : laidMetH Tryd.prog Rows.codeMakesRow.laid W) (hsh : W.ShapedOpen Tryd.prog) : LaidC W.heap.size W := by
  obtain ⟨te, pe, h1⟩ := syn_of h
  obtain ⟨tf, pf, h2⟩ := ran_of h
  obtain ⟨m, h3⟩ := Tryd.laysM147.s1_3 W hsh
  exact ⟨Lib.tabBelow_of_tabIs (pow_of h), ⟨te, pe, h1⟩, ⟨tf, pf, h2⟩, names_of h, ⟨m, h3⟩, ⟨World.block_lt_of_cell? W _ h1, World.block_lt_of_cell? W _ h2, (names_of h).lt, World.block_lt_of_cell? W _ h3⟩, Nat.le_refl _⟩

/-- The table of package unicode/utf8 that the rows list as well. -/
def firstCells : Array Value := (Go.Pinned.utf8FirstZ.map fun z => Value.int .u8 ((z : Nat) : Int)).toArray
def layFirst : Obj → Obj
  | .cells _ t fr => .cells firstCells t fr
  | o => o
/-- A world for the witness: the heap that the door's own run leaves, with that table. -/
noncomputable def laidWorld (os : Os) : World :=
  { World.doorLaid Tryd.prog 77 os with heap := (World.doorLaid Tryd.prog 77 os).heap.modify 5 layFirst }
theorem laidOutTryd : laidOutB Tryd.prog = true := by kernel_rfl
theorem ownTryd : ownKnob Tryd.prog.godebug = none := by kernel_rfl
end Go.Proofs.YtgkldglknkeedaaDoor
