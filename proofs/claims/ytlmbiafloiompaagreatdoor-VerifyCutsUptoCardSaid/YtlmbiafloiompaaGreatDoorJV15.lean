/-
  4 texts in one (VRow VCOpen VerM VerP). Conditions: those of each theorem.
-/
import Derived.Test.YtlmbiafloiompaaGreatDoorCards
import Derived.Test.YtlmbiafloiompaaGreatDoorTie
import Derived.Test.YtlmbiafloiompaaGreatDoorJV14
import Derived.Test.YtlmbiafloiompaaGreatDoorChecked
import Derived.Lib.LaidTab
import Derived.LaidSub
import Derived.LaidLaws
import Derived.MakeChecks
import Derived.LaidMore
import Derived.Deep.DeepHandedRow
import Derived.Test.YtlmbiafloiompaaGreatDoorJV13
import Derived.Test.YtlmbiafloiompaaGreatDoorJV01
namespace Go.Proofs.YtlmbiafloiompaaGreatDoor
open Go.ChangeShapes Go.WideShapes Go.ChangeAt Go.RowKit
set_option linter.unusedVariables false
set_option linter.unusedSimpArgs false

theorem gPow : Tryz.prog.globalNamed "internal/strconv.uint64pow10" = some 6 := by kernel_rfl
theorem gPowType : (Tryz.prog.globals[6]?).map (·.type) = some 278 := by kernel_rfl
theorem cellsPow : Tryz.prog.cellsOf 278 = 20 := by kernel_rfl
theorem cellsWord : Tryz.prog.cellsOf 72 = 1 := by kernel_rfl
theorem gNam : Tryz.prog.globalNamed "resolvent/code.names" = some 0 := by kernel_rfl
theorem gNamType : (Tryz.prog.globals[0]?).map (·.type) = some 184 := by kernel_rfl
theorem cellsNam : Tryz.prog.cellsOf 184 = 27 := by kernel_rfl
theorem cellsStr : Tryz.prog.cellsOf 9 = 1 := by kernel_rfl
theorem gSyn : Tryz.prog.globalNamed "strconv.ErrSyntax" = some 2 := by kernel_rfl
theorem gSynType : (Tryz.prog.globals[2]?).map (·.type) = some 197 := by kernel_rfl
theorem gRan : Tryz.prog.globalNamed "strconv.ErrRange" = some 3 := by kernel_rfl
theorem gRanType : (Tryz.prog.globals[3]?).map (·.type) = some 197 := by kernel_rfl

theorem pow_of {W : World} (h : laidMetH Tryz.prog Rows.verifyCutsRow.laid W) : Lib.TabIs Tryz.prog W "internal/strconv.uint64pow10" .u64 Lib.pow10Tab := by
  have h1 := laidMetH.filter (fun x => x.1 == "internal/strconv.uint64pow10") h
  have e : Rows.verifyCutsRow.laid.filter (fun x => x.1 == "internal/strconv.uint64pow10") = [("internal/strconv.uint64pow10", Lib.tabData .u64 Lib.pow10Tab)] := by kernel_rfl
  rw [e, MakeChecks.laidMetH_plain _ _ _ (by kernel_rfl)] at h1
  exact Lib.tabIs_of_head (rest := []) gPow gPowType Tryz.underlying278 Tryz.underlying72 cellsWord cellsPow h1

theorem iface_of_head {W : World} {name nm : String} {d : DataW Unit} {rest : List (String × DataW Unit)} {g : Nat} (hg : Tryz.prog.globalNamed name = some g) (hty : (Tryz.prog.globals[g]?).map (·.type) = some 197)
    (h : laidMet Tryz.prog ((name, .iface nm d) :: rest) W) : ∃ te pe, W.cell? ⟨g, 0, none⟩ = some (.iface te pe) := by
  obtain ⟨ps, ⟨g', t', cs, fuel, p, q, hg', ht', hvar, hd, _, _⟩, _⟩ := h
  obtain rfl := Option.some.inj (hg.symm.trans hg')
  obtain rfl := Option.some.inj (hty.symm.trans ht')
  obtain ⟨_, u, v, hcs, _, _⟩ := iface_of_trod Tryz.underlying197 hd
  refine ⟨u, v, ?_⟩
  have := World.var?_cell hg hvar 0
  rw [this]
  have e : cs = #[.iface u v] := by
    cases cs
    simp_all
  rw [e]
  rfl
theorem syn_of {W : World} (h : laidMetH Tryz.prog Rows.verifyCutsRow.laid W) : ∃ te pe, W.cell? ⟨2, 0, none⟩ = some (.iface te pe) := by
  have h1 := laidMetH.filter (fun x => x.1 == "strconv.ErrSyntax") h
  have e : Rows.verifyCutsRow.laid.filter (fun x => x.1 == "strconv.ErrSyntax") = [("strconv.ErrSyntax", Rows.laid_strconv_ErrSyntax)] := by kernel_rfl
  rw [e, MakeChecks.laidMetH_plain _ _ _ (by kernel_rfl)] at h1
  exact iface_of_head (rest := []) gSyn gSynType h1
theorem ran_of {W : World} (h : laidMetH Tryz.prog Rows.verifyCutsRow.laid W) : ∃ te pe, W.cell? ⟨3, 0, none⟩ = some (.iface te pe) := by
  have h1 := laidMetH.filter (fun x => x.1 == "strconv.ErrRange") h
  have e : Rows.verifyCutsRow.laid.filter (fun x => x.1 == "strconv.ErrRange") = [("strconv.ErrRange", Rows.laid_strconv_ErrRange)] := by kernel_rfl
  rw [e, MakeChecks.laidMetH_plain _ _ _ (by kernel_rfl)] at h1
  exact iface_of_head (rest := []) gRan gRanType h1

/-- An array of strings that reads as these texts holds them, cell for cell. -/
theorem cells_of_strs {H : Type} {enc : TypeId × Value → H} {P : Program} {w : World} {base : Nat} {sp : Nat → Bool} {held : Bool} {fuel : Nat} {t e : TypeId} {n : Nat} {cs : List Value} {zs : List (List UInt8)} {p : List MemPlace}
    (ht : P.underlying t = some (.array n e)) (he : P.underlying e = some .string) (hce : P.cellsOf e = 1) (hct : P.cellsOf t = n)
    (h : DataW.trod enc P w base sp held fuel t cs = some (.agg (zs.map fun z => .lit (.string z)), p)) : cs = zs.map fun z => Value.string ⟨z.toArray⟩ := by
  cases fuel with
  | zero => simp [DataW.trod] at h
  | succ fuel =>
    simp only [DataW.trod, ht, hce, hct, Nat.mul_one] at h
    split at h
    · rename_i hl
      obtain ⟨xs, hm, hx⟩ := Option.map_eq_some_iff.1 h
      have hxs : xs.map (·.1) = zs.map fun z => (DataW.lit (.string z) : DataW H) := by
        have := congrArg Prod.fst hx
        simpa using this
      have hxl : xs.length = n := by simpa using Lib.mapM_length hm
      have hzl : zs.length = n := by
        have := congrArg List.length hxs
        simp at this
        omega
      apply List.ext_getElem?
      intro i
      by_cases hi : i < n
      · obtain ⟨b, hb, hf⟩ := Lib.mapM_at hm i i (by simp [hi])
        obtain ⟨z, hc, rfl, _⟩ := DataW.trod_string he hf
        have h1 : cs[i]? = some (.string z) := by
          have := congrArg (·[0]?) hc
          simpa [List.getElem?_take, List.getElem?_drop] using this
        have h2 : (xs.map (·.1))[i]? = some (DataW.lit (.string z.data.toList) : DataW H) := by simp [hb]
        rw [hxs] at h2
        simp only [List.getElem?_map, Option.map_eq_some_iff, DataW.lit.injEq, Lit.string.injEq] at h2
        obtain ⟨z', hz', hz''⟩ := h2
        have h3 : (⟨z'.toArray⟩ : ByteArray) = z := by rw [hz'']
        rw [h1, List.getElem?_map, hz', Option.map_some, h3]
      · rw [List.getElem?_eq_none (by omega), List.getElem?_eq_none (by simp; omega)]
    · cases h

theorem names_of {W : World} (h : laidMetH Tryz.prog Rows.verifyCutsRow.laid W) : NamesAt W := by
  have h1 := laidMetH.filter (fun x => x.1 == "resolvent/code.names") h
  have e : Rows.verifyCutsRow.laid.filter (fun x => x.1 == "resolvent/code.names") = [("resolvent/code.names", .agg (nameList.map fun z => .lit (.string z)))] := by kernel_rfl
  rw [e, MakeChecks.laidMetH_plain _ _ _ (by kernel_rfl)] at h1
  obtain ⟨ps, ⟨g', t', cs, fuel, p, q, hg', ht', hvar, hd, _, _⟩, _⟩ := h1
  obtain rfl := Option.some.inj (gNam.symm.trans hg')
  obtain rfl := Option.some.inj (gNamType.symm.trans ht')
  have hcs := cells_of_strs Tryz.underlying184 Tryz.underlying9 cellsStr cellsNam hd
  have hce : cs = namesArr := by
    apply Array.toList_inj.1
    rw [hcs]
    unfold namesArr
    rfl
  unfold World.var? at hvar
  rw [gNam, Option.bind_some] at hvar
  split at hvar
  · rename_i cs' t fr hx
    injection hvar with hvar
    subst hvar
    rw [hce] at hx
    exact ⟨t, fr, hx⟩
  · cases hvar

theorem laid_of {W : World} (h : laidMetH Tryz.prog Rows.verifyCutsRow.laid W) (hsh : W.ShapedOpen Tryz.prog) : LaidC W.heap.size W := by
  obtain ⟨te, pe, h1⟩ := syn_of h
  obtain ⟨tf, pf, h2⟩ := ran_of h
  obtain ⟨m, h3⟩ := Tryz.laysM147.s1_3 W hsh
  exact ⟨Lib.tabBelow_of_tabIs (pow_of h), ⟨te, pe, h1⟩, ⟨tf, pf, h2⟩, names_of h, ⟨m, h3⟩, ⟨World.block_lt_of_cell? W _ h1, World.block_lt_of_cell? W _ h2, (names_of h).lt, World.block_lt_of_cell? W _ h3⟩, Nat.le_refl _⟩

/-- The table of package unicode/utf8 that the rows list as well. -/
def firstCells : Array Value := (Go.Pinned.utf8FirstZ.map fun z => Value.int .u8 ((z : Nat) : Int)).toArray
def layFirst : Obj → Obj
  | .cells _ t fr => .cells firstCells t fr
  | o => o
/-- A world for the witness: the heap that the door's own run leaves, with that table. -/
noncomputable def laidWorld (os : Os) : World :=
  { World.doorLaid Tryz.prog 239 os with heap := (World.doorLaid Tryz.prog 239 os).heap.modify 4 layFirst }
theorem laidOutTryz : laidOutB Tryz.prog = true := by kernel_rfl
theorem ownTryz : ownKnob Tryz.prog.godebug = none := by kernel_rfl
end Go.Proofs.YtlmbiafloiompaaGreatDoor

namespace Go.Proofs.YtlmbiafloiompaaGreatDoor
open Go.ChangeShapes Go.WideShapes Go.ChangeAt Go.RowKit Go.Deep
set_option linter.unusedVariables false
set_option linter.unusedSimpArgs false

theorem bulk_mem {H : Type} : ∀ (ds : List (DataW H)) (d : DataW H), d ∈ ds → Rows.uptoBulk d ≤ Rows.uptoBulkAll ds
  | [], _, h => by cases h
  | x :: r, d, h => by
    simp only [Rows.uptoBulkAll]
    rcases List.mem_cons.1 h with rfl | h
    · omega
    · have := bulk_mem r d h
      omega
theorem strs_up {H : Type} {enc : TypeId × Value → H} {W : World} {fuel : Nat} {oa : Option Addr} {len cap : Nat} {x : DataW H × List MemPlace}
    (h : DataW.trod enc Tryz.prog W 0 (fun _ => true) true fuel 22 [.slice oa len cap] = some x) :
    ∃ l : List ByteArray, len = l.length ∧ l.length ≤ cap ∧ cap ≤ 9223372036854775807 ∧ AtomsAt W (.slice oa l.length cap) l ∧ ∀ s ∈ l, s.size ≤ Rows.uptoBulk x.1 := by
  obtain ⟨l', ha', _⟩ := strs_in h
  have hlt : ∀ b off, oa = some ⟨b, off, none⟩ → len ≠ 0 → b < W.heap.size := fun b off e hne => by
    subst e
    unfold AtomsAt CellsAt at ha'
    rcases ha' with ⟨_, _, A, c, he⟩ | ⟨b', off', c, he, hb, _⟩
    · cases he
      exact absurd rfl hne
    · cases he
      exact hb
  rcases open_slice1 Tryz.underlying22 cellsStr8 h with ⟨hcs, hx⟩ | ⟨a, len', cap', m, n, V, D, Pl, hcs, _, hl, hm, hmm, rfl, hi⟩
  · simp only [List.cons.injEq, Value.slice.injEq, and_true] at hcs
    obtain ⟨rfl, rfl, rfl⟩ := hcs
    exact ⟨[], rfl, Nat.le_refl _, by omega, .inl ⟨rfl, rfl, none, 0, rfl⟩, fun s hs => by cases hs⟩
  · simp only [List.cons.injEq, Value.slice.injEq, and_true] at hcs
    obtain ⟨rfl, rfl, rfl⟩ := hcs
    simp only [if_true] at hmm
    subst hmm
    have hmx : m ≤ 9223372036854775807 := by unfold maxLen at hm; omega
    by_cases h0 : len = 0
    · subst h0
      exact ⟨[], rfl, Nat.zero_le _, hmx, .inl ⟨rfl, rfl, some a, m, rfl⟩, fun s hs => by cases hs⟩
    · have each : ∀ r, r < len → ∃ s : ByteArray, V r = .string s ∧ s.size ≤ Rows.uptoBulk (D r) := fun r hr => by
        obtain ⟨s, h1, h2, h3⟩ := DataW.trod_string Tryz.underlying9 (hi r (by omega)).2
        refine ⟨s, by simpa using h1, ?_⟩
        have h4 : D r = .lit (.string s.data.toList) := congrArg Prod.fst h2
        rw [h4]
        simp only [Rows.uptoBulk, Array.length_toList]
        exact Nat.le_succ _
      obtain ⟨L, hL⟩ := choose_lt each
      obtain ⟨b, off, spot⟩ := a
      have hspot : spot = none := by simpa [Addr.add] using World.cell?_spot (hi 0 (by omega)).1
      subst hspot
      have hlen : ((List.range len).map L).length = len := by simp
      refine ⟨(List.range len).map L, hlen.symm, by rw [hlen]; omega, hmx, ?_, fun s hs => ?_⟩
      · refine .inr ⟨b, off, m, rfl, hlt b off rfl h0, fun j u hj => ?_⟩
        have hj2 : j < len := by
          have := (List.getElem?_eq_some_iff.1 hj).1
          simpa using this
        rw [List.getElem?_map, List.getElem?_map, List.getElem?_range hj2] at hj
        obtain rfl := Option.some.inj hj
        have hc := (hi j (by omega)).1
        rw [(hL j hj2).1, show (⟨b, off, none⟩ : Addr).add j = ⟨b, off + j, none⟩ from by unfold Addr.add; split <;> simp_all] at hc
        exact hc
      · obtain ⟨r, hr, rfl⟩ := List.mem_map.1 hs
        have hr2 := List.mem_range.1 hr
        have h1 := (hL r hr2).2
        have h2 := bulk_mem ((List.range len).map D) (D r) (List.mem_map_of_mem hr)
        simp only [Rows.uptoBulk]
        omega

end Go.Proofs.YtlmbiafloiompaaGreatDoor

namespace Go.Proofs.YtlmbiafloiompaaGreatDoor
open Go
set_option linter.unusedVariables false
set_option linter.unusedSimpArgs false

/-- What is known ahead of an instruction: which registers are set (a bit each), the environment, its places, parts to come, another way, the predicate's own level. -/
structure VSt where
  x : Nat
  env : Int
  y : List Int
  left : Int
  alt : Bool
  neck : Bool
deriving DecidableEq
def yZero : List Int := List.replicate 16 0
def stZero : VSt := ⟨0, 0, yZero, 0, false, false⟩
/-- At an Entry; where a choice goes on. -/
def stEntry (arity : Nat) : VSt := ⟨2 ^ arity - 1, -1, yZero, 0, false, true⟩
def stOther (arity : Nat) : VSt := { stEntry arity with alt := true }
/-- A place: has something come; does it not fit; what is known. -/
structure VPl where
  here : Bool
  bad : Bool
  s : VSt
deriving DecidableEq
def plZero : VPl := ⟨false, false, stZero⟩
def mixY (a b : Int) : Int := if a = b then a else 3
def joinV (s t : VSt) : VSt := { s with x := s.x &&& t.x, neck := s.neck && t.neck, y := List.zipWith mixY s.y t.y }
def fitsV (s t : VSt) : Bool := decide (s.env = t.env) && decide (s.left = t.left) && decide (s.alt = t.alt)
def comeV (p : VPl) (s : VSt) : VPl :=
  if p.here = false then { p with here := true, s := s }
  else if fitsV p.s s = false then { p with bad := true }
  else { p with s := joinV p.s s }
/-- Registers and places. -/
def setV (s : VSt) (r : Int) : Bool := s.x.testBit r.toNat
def yAt (s : VSt) (k : Int) : Int := s.y.getD k.toNat 0
def mayV (s : VSt) (r : Int) : Bool := decide (r < 16) || (decide (r - 16 < s.env) && decide (yAt s (r - 16) = 0))
def termV (s : VSt) (r : Int) : Bool := if r < 16 then setV s r else decide (r - 16 < s.env) && decide (yAt s (r - 16) = 1)
def regV (s : VSt) (r : Int) : VSt := { s with x := s.x ||| 2 ^ r.toNat }
def becV (s : VSt) (r : Int) : VSt := if r < 16 then regV s r else { s with y := s.y.set (r - 16).toNat 1 }
def coverV (s : VSt) (n : Int) : Bool := decide (s.x &&& (2 ^ n.toNat - 1) = 2 ^ n.toNat - 1)
def arityF (o : Ob) (k : Int) : Int := (o.funs.getD k.toNat (⟨#[]⟩, 0)).2
def arityP (o : Ob) (k : Int) : Int := (o.preds.getD k.toNat (⟨#[]⟩, 0, 0)).2.1
def entP (o : Ob) (k : Int) : Int := (o.preds.getD k.toNat (⟨#[]⟩, 0, 0)).2.2
/-- An instruction for parts. -/
def partV (op : Int) : Bool := decide (6 ≤ op) && decide (op ≤ 9)
def asksPart (i : Ins) (s : VSt) : Bool :=
  if i.1 = 9 then decide (i.2.1 ≤ s.left)
  else if s.left = 0 then false
  else if i.1 = 6 then mayV s i.2.1
  else if i.1 = 7 then termV s i.2.1
  else true
/-- Is all that an instruction asks so? -/
def asksV (o : Ob) (ar : Int) (i : Ins) (s : VSt) : Bool :=
  if s.alt ≠ (decide (i.1 = 21) || decide (i.1 = 22)) then false
  else if partV i.1 = true then asksPart i s
  else if s.left ≠ 0 then false
  else if i.1 = 1 then setV s i.2.2.1 && mayV s i.2.1
  else if i.1 = 2 then setV s i.2.2.1 && termV s i.2.1
  else if i.1 = 3 ∨ i.1 = 4 then setV s i.2.2.1
  else if i.1 = 5 then setV s i.2.1
  else if i.1 = 10 then mayV s i.2.1
  else if i.1 = 11 then termV s i.2.1
  else if i.1 = 15 ∨ i.1 = 19 then decide (s.env < 0)
  else if i.1 = 16 then decide (0 ≤ s.env)
  else if i.1 = 17 then decide (0 ≤ s.env) && coverV s (arityP o i.2.1)
  else if i.1 = 18 then decide (s.env < 0) && coverV s (arityP o i.2.1)
  else if i.1 = 20 then decide (s.env < 0) && s.neck && coverV s ar
  else if i.1 = 23 then s.neck
  else if i.1 = 24 then s.neck && mayV s (16 + i.2.1)
  else if i.1 = 25 then decide (i.2.1 < s.env) && decide (yAt s i.2.1 = 2)
  else if i.1 = 26 then setV s 0
  else true
/-- What is known behind it. -/
def makesV (o : Ob) (i : Ins) (s : VSt) : VSt :=
  if i.1 = 1 then becV s i.2.1
  else if i.1 = 4 then { s with left := arityF o i.2.1 }
  else if i.1 = 5 then { s with left := 2 }
  else if i.1 = 6 then { becV s i.2.1 with left := s.left - 1 }
  else if i.1 = 7 ∨ i.1 = 8 then { s with left := s.left - 1 }
  else if i.1 = 9 then { s with left := s.left - i.2.1 }
  else if i.1 = 10 then regV (becV s i.2.1) i.2.2.1
  else if i.1 = 11 ∨ i.1 = 12 then regV s i.2.2.1
  else if i.1 = 13 then { regV s i.2.2.1 with left := arityF o i.2.1 }
  else if i.1 = 14 then { regV s i.2.1 with left := 2 }
  else if i.1 = 15 then { s with env := i.2.1 }
  else if i.1 = 16 then { s with env := -1, y := yZero }
  else if i.1 = 17 then { s with x := 0, neck := false }
  else if i.1 = 21 ∨ i.1 = 22 then { s with alt := false }
  else if i.1 = 24 then { s with y := s.y.set i.2.1.toNat 2 }
  else s
def onV (op : Int) : Bool := !(decide (op = 0) || decide (op = 18) || decide (op = 19) || decide (op = 26))
/-- Its labels, without Nowhere. -/
def labsV (i : Ins) : List Int := ((List.range (opsOf i.1).length).filter fun k => decide ((opsOf i.1).getD k 0 = 8) && decide ((argOf i).getD k 0 ≠ 65535)).map fun k => (argOf i).getD k 0
/-- A place gets one more State. -/
def bringV (P : List VPl) (n : Int) (s : VSt) : List VPl := P.modify n.toNat fun p => comeV p s
/-- From one place, of a predicate's code up to an end, on. -/
def leadsV (stop : Int) (n : Nat) (i : Ins) : Bool := (!onV i.1 || decide ((n : Int) + 1 < stop)) && (labsV i).all fun t => decide ((n : Int) < t) && decide (t < stop)
def passV (o : Ob) (ar stop : Int) (n : Nat) (P : List VPl) : Option (List VPl) :=
  let p := P.getD n plZero
  let i := o.code.getD n (0, 0, 0, 0, 0)
  if p.bad = true ∨ p.here = false ∨ asksV o ar i p.s = false ∨ leadsV stop n i = false then none
  else
    let s := makesV o i p.s
    let Q := if onV i.1 = true then bringV P ((n : Int) + 1) s else P
    some ((labsV i).foldl (fun Q t => bringV Q t (if i.1 = 26 then s else stOther ar.toNat)) Q)
/-- The predicate whose code a place is in: its Entry the greatest of those not behind; -1: none. -/
def ownStep (o : Ob) (n : Int) (own : Int) (k : Nat) : Int := if entP o k ≤ n ∧ (own < 0 ∨ entP o own < entP o k) then (k : Int) else own
def ownV (o : Ob) (n : Int) : Int := (List.range o.preds.length).foldl (ownStep o n) (-1)
/-- The end of its code: the next Entry, or the code's end. -/
def stopV (o : Ob) (n : Int) : Int := (o.preds.filter fun p => decide (n < p.2.2)).foldl (fun m p => min m p.2.2) (o.code.length : Int)
/-- The places at the start: an Entry's State at each Entry. -/
def startV (o : Ob) : List VPl := o.preds.foldl (fun P p => P.set p.2.2.toNat ⟨true, false, stEntry p.2.1.toNat⟩) (List.replicate o.code.length plZero)
/-- The document: from place n on; the first that is wrong, or the States. -/
def walkV (o : Ob) : Nat → Nat → List VPl → List VSt → Except Nat (List VSt)
  | 0, _, _, l => .ok l
  | f + 1, n, P, l =>
    match passV o (arityP o (ownV o n)) (stopV o n) n P with
    | none => .error n
    | some Q => walkV o f (n + 1) Q (l ++ [(P.getD n plZero).s])
/-- What may come up to the next boundary: cells, words, choices. -/
structure VNd where
  cells : Int
  words : Int
  choices : Int
deriving DecidableEq
def ndZero : VNd := ⟨0, 0, 0⟩
def ndMax (a b : VNd) : VNd := ⟨max a.cells b.cells, max a.words b.words, max a.choices b.choices⟩
def ndOwn (o : Ob) (i : Ins) (b : VNd) : VNd :=
  if i.1 = 4 ∨ i.1 = 13 then { b with cells := b.cells + 1 + arityF o i.2.1 }
  else if i.1 = 5 ∨ i.1 = 14 then { b with cells := b.cells + 2 }
  else if i.1 = 10 then { b with cells := b.cells + 1 }
  else if i.1 = 15 then { b with words := b.words + 3 + i.2.1 }
  else if i.1 = 20 then { b with choices := b.choices + 1 }
  else b
/-- The Needs of the last k places, of code of n instructions. -/
def needsV (o : Ob) : Nat → List VNd
  | 0 => []
  | k + 1 =>
    let rest := needsV o k
    let n := o.code.length - (k + 1)
    let i := o.code.getD n (0, 0, 0, 0, 0)
    let behind := if i.1 = 26 then (labsV i).foldl (fun b t => ndMax b (rest.getD (t.toNat - (n + 1)) ndZero)) ndZero
      else if onV i.1 = true ∧ i.1 ≠ 17 then rest.getD 0 ndZero else ndZero
    ndOwn o i behind :: rest
/-- The document's answer: States, Needs, the error, where. -/
def verifyOf (o : Ob) : List VSt × List VNd × Int × Int :=
  if checkOf o ≠ 0 then ([], [], checkOf o, -1)
  else if o.preds.any (fun p => decide (p.2.2 = 65535)) = true then ([], [], 12, -1)
  else match walkV o o.code.length 0 (startV o) [] with
    | .error n => ([], [], 14, (n : Int))
    | .ok l => (l, needsV o o.code.length, 0, -1)

end Go.Proofs.YtlmbiafloiompaaGreatDoor

namespace Go.Proofs.YtlmbiafloiompaaGreatDoor
open Go
set_option linter.unusedVariables false
set_option linter.unusedSimpArgs false

theorem set_is (x n : Nat) : (x / 2 ^ n % 2 = 1) ↔ x.testBit n = true := by
  rw [Nat.testBit_eq_decide_div_mod_eq]
  simp
theorem or_lt {x r : Nat} (hx : x < 2 ^ 16) (hr : r < 16) : x ||| 2 ^ r < 2 ^ 16 := Nat.or_lt_two_pow hx (Nat.pow_lt_pow_right (by decide) hr)
theorem first_lt {n : Nat} (h : n ≤ 8) : 2 ^ n - 1 < 2 ^ 8 := by
  have h1 : 2 ^ n ≤ 2 ^ 8 := Nat.pow_le_pow_right (by decide) h
  have h2 := Nat.two_pow_pos n
  omega

end Go.Proofs.YtlmbiafloiompaaGreatDoor
