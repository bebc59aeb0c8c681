/-
  4 texts in one (ARow CodeQ CodeR CodeS). Conditions: those of each theorem.
-/
import Derived.Test.YtfgnapfodnhppaaGreatDoorCards
import Derived.Test.YtfgnapfodnhppaaGreatDoorTie
import Derived.Test.YtfgnapfodnhppaaGreatDoorJ18
import Derived.Test.YtfgnapfodnhppaaGreatDoorChecked
import Derived.Lib.LaidTab
import Derived.LaidSub
import Derived.LaidLaws
import Derived.MakeChecks
import Derived.LaidMore
import Derived.Deep.DeepHandedRow
import Derived.Test.YtfgnapfodnhppaaGreatDoorJ10
import Derived.Test.YtfgnapfodnhppaaGreatDoorJ08
import Derived.Laws.AppendOwn
import Derived.Laws.OwnMore
import Derived.WalkSpells
namespace Go.Proofs.YtfgnapfodnhppaaGreatDoor
open Go.ChangeShapes Go.WideShapes Go.ChangeAt Go.RowKit
set_option linter.unusedVariables false
set_option linter.unusedSimpArgs false

theorem gPow : Tryz.prog.globalNamed "internal/strconv.uint64pow10" = some 1 := by kernel_rfl
theorem gPowType : (Tryz.prog.globals[1]?).map (·.type) = some 184 := by kernel_rfl
theorem cellsPow : Tryz.prog.cellsOf 184 = 20 := by kernel_rfl
theorem cellsWord : Tryz.prog.cellsOf 169 = 1 := by kernel_rfl
theorem gNam : Tryz.prog.globalNamed "resolvent/code.names" = some 0 := by kernel_rfl
theorem gNamType : (Tryz.prog.globals[0]?).map (·.type) = some 140 := by kernel_rfl
theorem cellsNam : Tryz.prog.cellsOf 140 = 27 := by kernel_rfl
theorem cellsStr : Tryz.prog.cellsOf 9 = 1 := by kernel_rfl
theorem gSyn : Tryz.prog.globalNamed "strconv.ErrSyntax" = some 7 := by kernel_rfl
theorem gSynType : (Tryz.prog.globals[7]?).map (·.type) = some 151 := by kernel_rfl
theorem gRan : Tryz.prog.globalNamed "strconv.ErrRange" = some 8 := by kernel_rfl
theorem gRanType : (Tryz.prog.globals[8]?).map (·.type) = some 151 := by kernel_rfl

theorem pow_of {W : World} (h : laidMetH Tryz.prog Rows.asmLinesRow.laid W) : Lib.TabIs Tryz.prog W "internal/strconv.uint64pow10" .u64 Lib.pow10Tab := by
  have h1 := laidMetH.filter (fun x => x.1 == "internal/strconv.uint64pow10") h
  have e : Rows.asmLinesRow.laid.filter (fun x => x.1 == "internal/strconv.uint64pow10") = [("internal/strconv.uint64pow10", Lib.tabData .u64 Lib.pow10Tab)] := by kernel_rfl
  rw [e, MakeChecks.laidMetH_plain _ _ _ (by kernel_rfl)] at h1
  exact Lib.tabIs_of_head (rest := []) gPow gPowType Tryz.underlying184 Tryz.underlying169 cellsWord cellsPow h1

theorem iface_of_head {W : World} {name nm : String} {d : DataW Unit} {rest : List (String × DataW Unit)} {g : Nat} (hg : Tryz.prog.globalNamed name = some g) (hty : (Tryz.prog.globals[g]?).map (·.type) = some 151)
    (h : laidMet Tryz.prog ((name, .iface nm d) :: rest) W) : ∃ te pe, W.cell? ⟨g, 0, none⟩ = some (.iface te pe) := by
  obtain ⟨ps, ⟨g', t', cs, fuel, p, q, hg', ht', hvar, hd, _, _⟩, _⟩ := h
  obtain rfl := Option.some.inj (hg.symm.trans hg')
  obtain rfl := Option.some.inj (hty.symm.trans ht')
  obtain ⟨_, u, v, hcs, _, _⟩ := iface_of_trod Tryz.underlying151 hd
  refine ⟨u, v, ?_⟩
  have := World.var?_cell hg hvar 0
  rw [this]
  have e : cs = #[.iface u v] := by
    cases cs
    simp_all
  rw [e]
  rfl
theorem syn_of {W : World} (h : laidMetH Tryz.prog Rows.asmLinesRow.laid W) : ∃ te pe, W.cell? ⟨7, 0, none⟩ = some (.iface te pe) := by
  have h1 := laidMetH.filter (fun x => x.1 == "strconv.ErrSyntax") h
  have e : Rows.asmLinesRow.laid.filter (fun x => x.1 == "strconv.ErrSyntax") = [("strconv.ErrSyntax", Rows.laid_strconv_ErrSyntax)] := by kernel_rfl
  rw [e, MakeChecks.laidMetH_plain _ _ _ (by kernel_rfl)] at h1
  exact iface_of_head (rest := []) gSyn gSynType h1
theorem ran_of {W : World} (h : laidMetH Tryz.prog Rows.asmLinesRow.laid W) : ∃ te pe, W.cell? ⟨8, 0, none⟩ = some (.iface te pe) := by
  have h1 := laidMetH.filter (fun x => x.1 == "strconv.ErrRange") h
  have e : Rows.asmLinesRow.laid.filter (fun x => x.1 == "strconv.ErrRange") = [("strconv.ErrRange", Rows.laid_strconv_ErrRange)] := by kernel_rfl
  rw [e, MakeChecks.laidMetH_plain _ _ _ (by kernel_rfl)] at h1
  exact iface_of_head (rest := []) gRan gRanType h1

/-- An array of strings that reads as these texts holds them, cell for cell. -/
theorem cells_of_strs {H : Type} {enc : TypeId × Value → H} {P : Program} {w : World} {base : Nat} {sp : Nat → Bool} {held : Bool} {fuel : Nat} {t e : TypeId} {n : Nat} {cs : List Value} {zs : List (List UInt8)} {p : List MemPlace}
    (ht : P.underlying t = some (.array n e)) (he : P.underlying e = some .string) (hce : P.cellsOf e = 1) (hct : P.cellsOf t = n)
    (h : DataW.trod enc P w base sp held fuel t cs = some (.agg (zs.map fun z => .lit (.string z)), p)) : cs = zs.map fun z => Value.string ⟨z.toArray⟩ := by
  cases fuel with
  | zero => simp [DataW.trod] at h
  | succ fuel =>
    simp only [DataW.trod, ht, hce, hct, Nat.mul_one] at h
    split at h
    · rename_i hl
      obtain ⟨xs, hm, hx⟩ := Option.map_eq_some_iff.1 h
      have hxs : xs.map (·.1) = zs.map fun z => (DataW.lit (.string z) : DataW H) := by
        have := congrArg Prod.fst hx
        simpa using this
      have hxl : xs.length = n := by simpa using Lib.mapM_length hm
      have hzl : zs.length = n := by
        have := congrArg List.length hxs
        simp at this
        omega
      apply List.ext_getElem?
      intro i
      by_cases hi : i < n
      · obtain ⟨b, hb, hf⟩ := Lib.mapM_at hm i i (by simp [hi])
        obtain ⟨z, hc, rfl, _⟩ := DataW.trod_string he hf
        have h1 : cs[i]? = some (.string z) := by
          have := congrArg (·[0]?) hc
          simpa [List.getElem?_take, List.getElem?_drop] using this
        have h2 : (xs.map (·.1))[i]? = some (DataW.lit (.string z.data.toList) : DataW H) := by simp [hb]
        rw [hxs] at h2
        simp only [List.getElem?_map, Option.map_eq_some_iff, DataW.lit.injEq, Lit.string.injEq] at h2
        obtain ⟨z', hz', hz''⟩ := h2
        have h3 : (⟨z'.toArray⟩ : ByteArray) = z := by rw [hz'']
        rw [h1, List.getElem?_map, hz', Option.map_some, h3]
      · rw [List.getElem?_eq_none (by omega), List.getElem?_eq_none (by simp; omega)]
    · cases h

theorem names_of {W : World} (h : laidMetH Tryz.prog Rows.asmLinesRow.laid W) : NamesAt W := by
  have h1 := laidMetH.filter (fun x => x.1 == "resolvent/code.names") h
  have e : Rows.asmLinesRow.laid.filter (fun x => x.1 == "resolvent/code.names") = [("resolvent/code.names", .agg (nameList.map fun z => .lit (.string z)))] := by kernel_rfl
  rw [e, MakeChecks.laidMetH_plain _ _ _ (by kernel_rfl)] at h1
  obtain ⟨ps, ⟨g', t', cs, fuel, p, q, hg', ht', hvar, hd, _, _⟩, _⟩ := h1
  obtain rfl := Option.some.inj (gNam.symm.trans hg')
  obtain rfl := Option.some.inj (gNamType.symm.trans ht')
  have hcs := cells_of_strs Tryz.underlying140 Tryz.underlying9 cellsStr cellsNam hd
  have hce : cs = namesArr := by
    apply Array.toList_inj.1
    rw [hcs]
    unfold namesArr
    rfl
  unfold World.var? at hvar
  rw [gNam, Option.bind_some] at hvar
  split at hvar
  · rename_i cs' t fr hx
    injection hvar with hvar
    subst hvar
    rw [hce] at hx
    exact ⟨t, fr, hx⟩
  · cases hvar

theorem laid_of {W : World} (h : laidMetH Tryz.prog Rows.asmLinesRow.laid W) (hsh : W.ShapedOpen Tryz.prog) : LaidC W.heap.size W := by
  obtain ⟨te, pe, h1⟩ := syn_of h
  obtain ⟨tf, pf, h2⟩ := ran_of h
  obtain ⟨m, h3⟩ := Tryz.laysM147.s1_3 W hsh
  exact ⟨Lib.tabBelow_of_tabIs (pow_of h), ⟨te, pe, h1⟩, ⟨tf, pf, h2⟩, names_of h, ⟨m, h3⟩, ⟨World.block_lt_of_cell? W _ h1, World.block_lt_of_cell? W _ h2, (names_of h).lt, World.block_lt_of_cell? W _ h3⟩, Nat.le_refl _⟩

/-- The table of package unicode/utf8 that the rows list as well. -/
def firstCells : Array Value := (Go.Pinned.utf8FirstZ.map fun z => Value.int .u8 ((z : Nat) : Int)).toArray
def layFirst : Obj → Obj
  | .cells _ t fr => .cells firstCells t fr
  | o => o
/-- A world for the witness: the heap that the door's own run leaves, with that table. -/
noncomputable def laidWorld (os : Os) : World :=
  { World.doorLaid Tryz.prog 197 os with heap := (World.doorLaid Tryz.prog 197 os).heap.modify 5 layFirst }
theorem laidOutTryz : laidOutB Tryz.prog = true := by kernel_rfl
theorem ownTryz : ownKnob Tryz.prog.godebug = none := by kernel_rfl
end Go.Proofs.YtfgnapfodnhppaaGreatDoor

namespace Go.Proofs.YtfgnapfodnhppaaGreatDoor
open Go Go.RowKit Go.WideShapes Go.ChangeShapes
set_option linter.unusedVariables false

/-- All words. -/
def splitW : List UInt8 → List (List UInt8)
  | [] => [[]]
  | c :: r => if c = 32 then [] :: splitW r else match splitW r with
    | [] => [[c]]
    | w :: ws => (c :: w) :: ws

theorem splitW_ne (l : List UInt8) : splitW l ≠ [] := by
  cases l with
  | nil => simp [splitW]
  | cons c r =>
    rw [splitW]
    split
    · simp
    · split <;> simp
theorem splitW_miss : ∀ {w : List UInt8}, noBlank w → splitW w = [w] := by
  intro w
  induction w with
  | nil => intro _; rfl
  | cons c r ih =>
    intro h
    rw [splitW, if_neg (h c (by simp)), ih (fun x hx => h x (by simp [hx]))]
theorem splitW_hit : ∀ {w : List UInt8} (r : List UInt8), noBlank w → splitW (w ++ 32 :: r) = w :: splitW r := by
  intro w r
  induction w with
  | nil => intro _; simp [splitW]
  | cons c w ih =>
    intro h
    rw [List.cons_append, splitW, if_neg (h c (by simp)), ih (fun x hx => h x (by simp [hx]))]
theorem splitW_join : ∀ (ws : List (List UInt8)) (w0 : List UInt8), noBlank w0 → (∀ w ∈ ws, noBlank w) → splitW (w0 ++ ws.flatMap (32 :: ·)) = w0 :: ws := by
  intro ws
  induction ws with
  | nil => intro w0 h0 _; simp [splitW_miss h0]
  | cons w ws ih =>
    intro w0 h0 hws
    rw [List.flatMap_cons, List.cons_append, splitW_hit _ h0, ih w (hws w (by simp)) (fun x hx => hws x (by simp [hx]))]

/-- The digits' number, as far as they are digits. -/
def digOk (c : UInt8) : Bool := decide (48 ≤ c.toNat ∧ c.toNat ≤ 57)
def valOf (l : List UInt8) : Nat := l.foldl (fun n c => 10 * n + (c.toNat - 48)) 0
/-- A word's number; -1: it is none of few digits. -/
def rnumOf (w : List UInt8) : Int :=
  if w.length < 1 ∨ 7 < w.length then -1
  else if w.all digOk = true then (if Lib.itoa (valOf w : Int) = w then (valOf w : Int) else -1)
  else -1

theorem valOf_snoc (l : List UInt8) (c : UInt8) : valOf (l ++ [c]) = 10 * valOf l + (c.toNat - 48) := by simp [valOf]
theorem take_byte (s : ByteArray) (k : Nat) (h : k < s.size) : s.data.toList.take (k + 1) = s.data.toList.take k ++ [s[k]] := by
  rw [List.take_succ_eq_append_getElem (by simpa using h)]; rfl
theorem take_all_dig (s : ByteArray) (k : Nat) (h : k < s.size) (ha : (s.data.toList.take k).all digOk = true) (hd : digOk s[k] = true) : (s.data.toList.take (k + 1)).all digOk = true := by
  rw [take_byte s k h, List.all_append, ha]
  simpa using hd
theorem valOf_take_lt (s : ByteArray) : ∀ k, k ≤ s.size → (s.data.toList.take k).all digOk = true → valOf (s.data.toList.take k) < 10 ^ k := by
  intro k
  induction k with
  | zero => intro _ _; simp [valOf]
  | succ k ih =>
    intro hk h
    have hk' : k < s.size := by omega
    rw [take_byte s k hk', List.all_append, Bool.and_eq_true] at h
    have h1 := ih (by omega) h.1
    have h2 : digOk s[k] = true := by simpa using h.2
    have h3 := of_decide_eq_true h2
    rw [take_byte s k hk', valOf_snoc, Nat.pow_succ]
    omega

set_option maxHeartbeats 2000000 in
theorem rnum_any (s : ByteArray) (w : World) :
    Calls Tryz.prog 55 #[.string s] w fun e w' => e = .returned (.int .i64 (rnumOf s.data.toList)) ∧ Below w.heap.size w w' := by
  have hl : s.data.toList.length = s.size := by rw [Array.length_toList]; rfl
  by_cases hsz : s.size < 1 ∨ 7 < s.size
  · have hr : rnumOf s.data.toList = -1 := by rw [rnumOf, if_pos (by rw [hl]; exact hsz)]
    rw [hr]
    clear hr hl
    rcases hsz with h | h
    · have h0 : s.size = 0 := by omega
      have h1 : (s.size : Int) < 1 := by omega
      clear h
      go_enter Tryz.func55, Tryz.ntmps55
      go_wp2
      go_ret
      exact ⟨rfl, Below.refl _ _⟩
    · have h1 : ¬ (s.size : Int) < 1 := by omega
      have h2 : (7 : Int) < (s.size : Int) := by omega
      clear h
      go_enter Tryz.func55, Tryz.ntmps55
      go_wp2
      go_ret
      exact ⟨rfl, Below.refl _ _⟩
  · have h1 : ¬ (s.size : Int) < 1 := by omega
    have h2 : ¬ (7 : Int) < (s.size : Int) := by omega
    have h3 : s.size ≤ 7 := by omega
    have hr : rnumOf s.data.toList = if s.data.toList.all digOk = true then (if Lib.itoa (valOf s.data.toList : Int) = s.data.toList then (valOf s.data.toList : Int) else -1) else -1 := by
      rw [rnumOf, if_neg (by rw [hl]; exact hsz)]
    have HR := Lib.hid hr
    have HL := Lib.hid hl
    clear hr hl hsz
    go_enter Tryz.func55, Tryz.ntmps55
    go_wp2
    go_loop [3, 4] (fun n i => ∃ k : Nat, k ≤ s.size ∧ i = .int .i64 k ∧ n = .int .i64 (valOf (s.data.toList.take k) : Int) ∧ (s.data.toList.take k).all digOk = true) (fun _ i => s.size - (intOf i).toNat)
    case atStart => exact ⟨0, by omega, rfl, rfl, rfl⟩
    case round =>
      obtain ⟨k, hk, rfl, rfl, hall⟩ := hrel
      have hv := valOf_take_lt s k hk hall
      have hp : (10 : Nat) ^ k ≤ 10 ^ 7 := Nat.pow_le_pow_right (by decide) (by omega)
      have hv7 : valOf (s.data.toList.take k) < 10000000 := Nat.lt_of_lt_of_le hv hp
      clear hv hp
      by_cases hlt : k < s.size
      · have hts := take_byte s k hlt
        by_cases hd : digOk s[k] = true
        · have hb := of_decide_eq_true hd
          have hall2 := take_all_dig s k hlt hall hd
          have hval : (valOf (s.data.toList.take (k + 1)) : Int) = 10 * (valOf (s.data.toList.take k) : Int) + ((s[k].toNat : Int) - 48) := by
            rw [hts, valOf_snoc]
            omega
          generalize valOf (s.data.toList.take k) = n at hv7 hval
          have HALL2 := Lib.hid hall2
          have HVAL := Lib.hid hval
          have b1 : ¬ (s[k].toNat : Int) < 48 := by omega
          have b2 : ¬ (57 : Int) < (s[k].toNat : Int) := by omega
          clear hall hall2 hval hts hd hb
          go_wp2
          go_round
          case rel => exact ⟨k + 1, by omega, by go_num, by rw [HVAL.out], HALL2.out⟩
          case measure => simp [intOf]; omega
        · have hno : rnumOf s.data.toList = -1 := by
            rw [HR.out, if_neg]
            intro h
            rw [List.all_eq_true] at h
            exact hd (h s[k] (by
              have : s[k] = s.data.toList[k]'(by simpa using hlt) := rfl
              rw [this]
              exact List.getElem_mem _))
          have HNO := Lib.hid hno
          have hb : (s[k].toNat : Int) < 48 ∨ (57 : Int) < (s[k].toNat : Int) := by
            have h4 : ¬ (48 ≤ s[k].toNat ∧ s[k].toNat ≤ 57) := fun h => hd (decide_eq_true h)
            omega
          clear hall hts hd hno
          rcases hb with b1 | b2
          · go_wp2
            go_ret
            exact ⟨by rw [HNO.out]; rfl, Below.refl _ _⟩
          · have b1 : ¬ (s[k].toNat : Int) < 48 := by omega
            go_wp2
            go_ret
            exact ⟨by rw [HNO.out]; rfl, Below.refl _ _⟩
      · obtain rfl : k = s.size := by omega
        have ht : s.data.toList.take s.size = s.data.toList := List.take_of_length_le (by rw [HL.out]; exact Nat.le_refl _)
        rw [ht] at hall hv7
        have hr2 : rnumOf s.data.toList = if Lib.itoa (valOf s.data.toList : Int) = s.data.toList then (valOf s.data.toList : Int) else -1 := by rw [HR.out, if_pos hall]
        have HT := Lib.hid ht
        obtain ⟨n, hn⟩ : ∃ n, valOf s.data.toList = n := ⟨_, rfl⟩
        have hn2 : valOf (s.data.toList.take s.size) = n := by rw [ht, hn]
        rw [hn] at hr2 hv7
        rw [hn2]
        have hnum := fun w => num_itoa (n : Int) (by omega) (by omega) w
        have HR2 := Lib.hid hr2
        clear hall ht hr2 hn hn2 HR
        by_cases he : Lib.itoa (n : Int) = s.data.toList
        · have hs : (⟨(Lib.itoa (n : Int)).toArray⟩ : ByteArray) = s := by rw [he]
          rw [hs] at hnum
          have hr3 : rnumOf s.data.toList = (n : Int) := by rw [HR2.out, if_pos he]
          have HR3 := Lib.hid hr3
          have HNUM := Lib.hid hnum
          clear hs hr3 hnum he
          go_wp2_with (refine (HNUM.out _).mono ?_; rintro e w2 ⟨rfl, hm⟩)
          go_ret
          exact ⟨by rw [HR3.out]; rfl, by obtain ⟨m, rfl⟩ := hm; exact ⟨rfl, rfl, rfl, Nat.le_refl _, fun _ _ => rfl⟩⟩
        · have hs : ¬ (⟨(Lib.itoa (n : Int)).toArray⟩ : ByteArray) = s := fun e => he (by rw [← e])
          generalize (⟨(Lib.itoa (n : Int)).toArray⟩ : ByteArray) = t at hs hnum
          have hne := ne_strs hs
          have hr3 : rnumOf s.data.toList = -1 := by rw [HR2.out, if_neg he]
          have HR3 := Lib.hid hr3
          have HNUM := Lib.hid hnum
          clear hs hr3 hnum he
          go_wp2_with (refine (HNUM.out _).mono ?_; rintro e w2 ⟨rfl, hm⟩)
          go_ret
          exact ⟨by rw [HR3.out]; rfl, by obtain ⟨m, rfl⟩ := hm; exact ⟨rfl, rfl, rfl, Nat.le_refl _, fun _ _ => rfl⟩⟩

end Go.Proofs.YtfgnapfodnhppaaGreatDoor

namespace Go.Proofs.YtfgnapfodnhppaaGreatDoor
open Go Go.RowKit Go.WideShapes Go.ChangeShapes
set_option linter.unusedVariables false

theorem infoTryzstr : (Tryz.prog.info? 9).map (fun i => (i.zero, i.size, i.bytes)) = some (some (.string ⟨#[]⟩), 1, 16) := by kernel_rfl

def strs (l : List (List UInt8)) : List Value := l.map fun w => Value.string (bs w)

/-- Of the text s, up to byte i, the words that are done; the next one begins at f. -/
def WordsAt (s : List UInt8) (f i : Nat) (done : List (List UInt8)) : Prop :=
  (f ≤ i ∧ i ≤ s.length ∧ done.length ≤ f ∧ splitW s = done ++ splitW (s.drop f) ∧ noBlank ((s.drop f).take (i - f))) ∨ (i = s.length + 1 ∧ splitW s = done ∧ done.length ≤ s.length + 1)

theorem WordsAt.zero (s : List UInt8) : WordsAt s 0 0 [] := .inl ⟨Nat.le_refl _, Nat.zero_le _, Nat.le_refl _, rfl, fun c hc => by simp at hc⟩

theorem drop_take_cons (s : List UInt8) (f i : Nat) (c : UInt8) (hf : f ≤ i) (hc : s[i]? = some c) : s.drop f = (s.drop f).take (i - f) ++ c :: s.drop (i + 1) := by
  have hi : i < s.length := (List.getElem?_eq_some_iff.1 hc).1
  have h1 : (s.drop f).drop (i - f) = c :: s.drop (i + 1) := by
    rw [List.drop_drop, show f + (i - f) = i by omega, List.drop_eq_getElem_cons hi]
    have : s[i] = c := (List.getElem?_eq_some_iff.1 hc).2
    rw [this]
  rw [← h1, List.take_append_drop]

theorem WordsAt.blank {s : List UInt8} {f i : Nat} {done : List (List UInt8)} (h : WordsAt s f i done) (hc : s[i]? = some 32) : WordsAt s (i + 1) (i + 1) (done ++ [(s.drop f).take (i - f)]) := by
  have hi : i < s.length := (List.getElem?_eq_some_iff.1 hc).1
  rcases h with ⟨h1, h2, h3, h4, h5⟩ | ⟨h1, _, _⟩
  · refine .inl ⟨Nat.le_refl _, by omega, by simp; omega, ?_, fun c hc => by simp at hc⟩
    have h6 := splitW_hit (s.drop (i + 1)) h5
    rw [← drop_take_cons s f i 32 h1 hc] at h6
    rw [h4, h6]
    simp
  · omega
theorem WordsAt.more {s : List UInt8} {f i : Nat} {done : List (List UInt8)} {c : UInt8} (h : WordsAt s f i done) (hc : s[i]? = some c) (hn : c ≠ 32) : WordsAt s f (i + 1) done := by
  have hi : i < s.length := (List.getElem?_eq_some_iff.1 hc).1
  rcases h with ⟨h1, h2, h3, h4, h5⟩ | ⟨h1, _, _⟩
  · refine .inl ⟨by omega, by omega, h3, h4, fun x hx => ?_⟩
    have e : (s.drop f).take (i + 1 - f) = (s.drop f).take (i - f) ++ [c] := by
      have hl : i - f < (s.drop f).length := by simp; omega
      rw [show i + 1 - f = (i - f) + 1 by omega, List.take_succ_eq_append_getElem hl]
      congr 2
      rw [List.getElem_drop]
      have : s[i]? = some s[i] := List.getElem?_eq_getElem hi
      rw [this] at hc
      injection hc with hc
      rw [← hc]
      congr 1
      omega
    rw [e] at hx
    rcases List.mem_append.1 hx with hx | hx
    · exact h5 x hx
    · have : x = c := by simpa using hx
      rw [this]
      exact hn
  · omega
theorem WordsAt.last {s : List UInt8} {f : Nat} {done : List (List UInt8)} (h : WordsAt s f s.length done) : WordsAt s (s.length + 1) (s.length + 1) (done ++ [(s.drop f).take (s.length - f)]) := by
  rcases h with ⟨h1, h2, h3, h4, h5⟩ | ⟨h1, _, _⟩
  · have e : (s.drop f).take (s.length - f) = s.drop f := List.take_of_length_le (by simp)
    rw [e] at h5 ⊢
    refine .inr ⟨rfl, by rw [h4, splitW_miss h5], by simp; omega⟩
  · omega

theorem ext_bs (s : ByteArray) (f i : Nat) : s.extract f i = bs ((s.data.toList.drop f).take (i - f)) := by
  apply ByteArray.ext
  apply Array.ext'
  rw [ByteArray.data_extract, Array.toList_extract]
  simp [bs, List.extract_eq_take_drop]

def WordsRes (w : World) (s : List UInt8) (e : Ending) (w' : World) : Prop :=
  ∃ v, e = .returned v ∧ w'.ownsRow w.heap.size 9 1 v (splitW s).length (strs (splitW s)) ∧ Below w.heap.size w w'

set_option maxRecDepth 100000 in
set_option maxHeartbeats 4000000 in
theorem rwords_any (s : ByteArray) (hs : s.size ≤ 100000) (w : World) :
    Calls Tryz.prog 52 #[.string s] w (WordsRes w s.data.toList) := by
  have hl : s.data.toList.length = s.size := by rw [Array.length_toList]; rfl
  have HL := Lib.hid hl
  have hnil : w.ownsRow w.heap.size 9 1 (.slice none 0 0) 0 [] := ⟨rfl, .inl ⟨rfl, rfl⟩⟩
  have HNIL := Lib.hid hnil
  obtain ⟨i0, hi, hz0, hz1, hz2⟩ := info_parts infoTryzstr
  have HI := Lib.hid hi
  have HZ0 := Lib.hid hz0
  have HZ1 := Lib.hid hz1
  have HZ2 := Lib.hid hz2
  clear hl hnil hi hz0 hz1 hz2
  go_enter Tryz.func52, Tryz.ntmps52
  go_wp2
  go_loopw [3, 4, 5] (fun v fv iv wr => ∃ (f k : Nat) (done : List (List UInt8)), fv = .int .i64 f ∧ iv = .int .i64 k ∧ WordsAt s.data.toList f k done ∧ wr.ownsRow w.heap.size 9 1 v done.length (strs done) ∧ Below w.heap.size w wr) (fun _ _ iv _ => s.size + 1 - (intOf iv).toNat)
  case atStart => exact ⟨0, 0, [], rfl, rfl, WordsAt.zero _, HNIL.out, Below.refl _ _⟩
  case round =>
    obtain ⟨f, k, done, rfl, rfl, hw, hown, hbl⟩ := hrel
    have HOWN := Lib.hid hown
    have HB := Lib.hid hbl
    have HW := Lib.hid hw
    have hbd : k ≤ s.size + 1 ∧ done.length ≤ s.size + 1 ∧ (k ≤ s.size → f ≤ k) := by
      have := HL.out
      rcases hw with ⟨h1, h2, h3, _⟩ | ⟨h1, _, h3⟩
      · omega
      · omega
    obtain ⟨hk1, hd1, hfk⟩ := hbd
    clear hown hbl hw
    by_cases hlt : k < s.size
    · have hfk' : f ≤ k := hfk (by omega)
      have hle : (k : Int) ≤ (s.size : Int) := by omega
      have hne : ((k : Int) == (s.size : Int)) = false := by rw [beq_eq_false_iff_ne]; omega
      have hgk : s.data.toList[k]? = some s[k] := by
        rw [List.getElem?_eq_getElem (by simpa using hlt)]; rfl
      clear hfk
      by_cases hb : s[k] = 32
      · have hbb : ((s[k].toNat : Int) == 32) = true := by rw [hb]; rfl
        have hnx := HW.out.blank (hb ▸ hgk)
        have HNX := Lib.hid hnx
        clear hb hnx hgk
        go_wp2_with (at_builtin; refine wpList_append_own _ rfl _ _ 22 rfl w.heap.size 9 i0 (.string ⟨#[]⟩) 1 16 Tryz.underlying22 HI.out HZ0.out HZ1.out HZ2.out rfl (by decide) _ _ _ rfl (own_fr (S := fun _ => False) HOWN.out ((Fr.refl _ wr).alloc _) (fun _ _ h => h)) ⟨wr.heap.size, 0, none⟩ 1 1 [.string (s.extract f k)] rfl rfl ?c1 ?c2 ?c3 ?c4 ?c5 ?_)
        case c1 => exact cell_one_new wr (.string (s.extract f k)) 9
        case c2 =>
          intro u hu
          obtain rfl : u = .string (s.extract f k) := by simpa using hu
          rfl
        case c3 => unfold maxLen; omega
        case c4 => omega
        case c5 => have := HB.out.size; simp; omega
        intro v' w5 hown5 hgrow _
        have hb5 : Below w.heap.size wr w5 := ((Below.refl _ wr).alloc HB.out.size _).trans ((Fr.of_grown (S := fun j => w.heap.size ≤ j) hgrow (fun j _ e => own_block_ge HOWN.out e)).below (B := w.heap.size) (by have := HB.out.size; simp; omega) (fun j h => h))
        have HB5 := Lib.hid (HB.out.trans hb5)
        have HOWN5 : Hid (w5.ownsRow w.heap.size 9 1 v' (done ++ [(s.data.toList.drop f).take (k - f)]).length (strs (done ++ [(s.data.toList.drop f).take (k - f)]))) := Lib.hid (by
          have h := hown5
          rw [ext_bs s f k] at h
          simpa [strs] using h)
        clear hown5 hgrow hb5
        go_wp2
        go_roundw
        case rel => exact ⟨k + 1, k + 1, _, by go_num, by go_num, HNX.out, HOWN5.out, HB5.out⟩
        case measure => simp [intOf]; omega
      · have hbb : ((s[k].toNat : Int) == 32) = false := by
          rw [beq_eq_false_iff_ne]
          intro e
          apply hb
          apply UInt8.toNat_inj.1
          show s[k].toNat = 32
          omega
        have hnx := HW.out.more hgk hb
        have HNX := Lib.hid hnx
        clear hb hnx hgk
        go_wp2
        go_roundw
        case rel => exact ⟨f, k + 1, done, rfl, by go_num, HNX.out, HOWN.out, HB.out⟩
        case measure => simp [intOf]; omega
    · by_cases hke : k = s.size
      · have hfk' : f ≤ k := hfk (by omega)
        subst hke
        have hle : (s.size : Int) ≤ (s.size : Int) := Int.le_refl _
        have hnx : WordsAt s.data.toList (s.size + 1) (s.size + 1) (done ++ [(s.data.toList.drop f).take (s.size - f)]) := by
          have h := HW.out
          rw [← HL.out] at h ⊢
          exact h.last
        have HNX := Lib.hid hnx
        clear hnx hfk hlt
        go_wp2_with (at_builtin; refine wpList_append_own _ rfl _ _ 22 rfl w.heap.size 9 i0 (.string ⟨#[]⟩) 1 16 Tryz.underlying22 HI.out HZ0.out HZ1.out HZ2.out rfl (by decide) _ _ _ rfl (own_fr (S := fun _ => False) HOWN.out ((Fr.refl _ wr).alloc _) (fun _ _ h => h)) ⟨wr.heap.size, 0, none⟩ 1 1 [.string (s.extract f s.size)] rfl rfl ?c1 ?c2 ?c3 ?c4 ?c5 ?_)
        case c1 => exact cell_one_new wr (.string (s.extract f s.size)) 9
        case c2 =>
          intro u hu
          obtain rfl : u = .string (s.extract f s.size) := by simpa using hu
          rfl
        case c3 => unfold maxLen; omega
        case c4 => omega
        case c5 => have := HB.out.size; simp; omega
        intro v' w5 hown5 hgrow _
        have hb5 : Below w.heap.size wr w5 := ((Below.refl _ wr).alloc HB.out.size _).trans ((Fr.of_grown (S := fun j => w.heap.size ≤ j) hgrow (fun j _ e => own_block_ge HOWN.out e)).below (B := w.heap.size) (by have := HB.out.size; simp; omega) (fun j h => h))
        have HB5 := Lib.hid (HB.out.trans hb5)
        have HOWN5 : Hid (w5.ownsRow w.heap.size 9 1 v' (done ++ [(s.data.toList.drop f).take (s.size - f)]).length (strs (done ++ [(s.data.toList.drop f).take (s.size - f)]))) := Lib.hid (by
          have h := hown5
          rw [ext_bs s f s.size] at h
          simpa [strs] using h)
        clear hown5 hgrow hb5
        go_wp2
        go_roundw
        case rel => exact ⟨s.size + 1, s.size + 1, _, by go_num, by go_num, HNX.out, HOWN5.out, HB5.out⟩
        case measure => simp [intOf]
      · have hgt : ¬ (k : Int) ≤ (s.size : Int) := by omega
        have hdone : splitW s.data.toList = done := by
          have := HL.out
          rcases HW.out with ⟨_, h2, _⟩ | ⟨_, h2, _⟩
          · omega
          · exact h2
        have HD := Lib.hid hdone
        clear hdone hfk hlt hke
        go_wp2
        go_ret
        exact ⟨_, rfl, by rw [HD.out]; exact HOWN.out, HB.out⟩

end Go.Proofs.YtfgnapfodnhppaaGreatDoor

namespace Go.Proofs.YtfgnapfodnhppaaGreatDoor
open Go Go.RowKit Go.WideShapes Go.ChangeShapes
set_option linter.unusedVariables false

def rnumAt (kind : Int) (x : List UInt8) : Int :=
  if x = [45] then 65535
  else if 1 < x.length ∧ x.head? = some 88 then rnumOf (x.drop 1)
  else if 1 < x.length ∧ x.head? = some 89 then (if kind = 1 then rnumOf (x.drop 1) + 16 else rnumOf (x.drop 1))
  else rnumOf x

def rAt (op : Int) (W : List (List UInt8)) (k : Nat) : Int :=
  if k < (opsOf op).length ∧ k + 1 < W.length then rnumAt ((opsOf op).getD k 0) (W.getD (k + 1) []) else 0

def rOp (s : List UInt8) : Int := namedOf (bs ((splitW s).getD 0 []))
def rArgs (s : List UInt8) : List Int := [rAt (rOp s) (splitW s) 0, rAt (rOp s) (splitW s) 1, rAt (rOp s) (splitW s) 2, rAt (rOp s) (splitW s) 3]
def rparse (s : List UInt8) : Option (Int × List Int) :=
  if s = [] ∨ textOf (rOp s) (rArgs s) ≠ s then none else some (rOp s, rArgs s)

def rbackB (kind n : Int) : Bool := !validB kind n || (rnumAt kind (wordOf kind n) == n)
theorem rbacks : ((List.range 10).all fun k => (List.range 1025).all fun n => rbackB (k : Int) (n : Int)) = true := by decide +kernel
theorem rback_far : rbackB 8 65535 = true := by decide +kernel
theorem rback_at {kind n : Int} (h0 : 0 ≤ kind) (h9 : kind ≤ 9) (h : validB kind n = true) : rnumAt kind (wordOf kind n) = n := by
  have hb : rbackB kind n = true := by
    rcases of_decide_eq_true h with ⟨rfl, rfl⟩ | ⟨h1, h2⟩
    · exact rback_far
    · have a : 0 ≤ lowOf kind := by unfold lowOf; split <;> omega
      have b : highOf kind ≤ 1023 := by
        unfold highOf
        repeat (first | split | omega)
      obtain ⟨K, rfl⟩ := Int.eq_ofNat_of_zero_le h0
      obtain ⟨N, rfl⟩ := Int.eq_ofNat_of_zero_le (show 0 ≤ n by omega)
      have h3 := List.all_eq_true.1 rbacks K (List.mem_range.2 (by omega))
      exact List.all_eq_true.1 h3 N (List.mem_range.2 (by omega))
  rw [rbackB, h, Bool.not_true, Bool.false_or] at hb
  exact beq_iff_eq.1 hb

/-- Each instruction that may be comes of its text. -/
theorem rparse_back {op a b c d : Int} (h : rightB op [a, b, c, d] = true) : rparse (textOf op [a, b, c, d]) = some (op, [a, b, c, d]) := by
  have hr := right_range h
  obtain ⟨K, rfl⟩ := Int.eq_ofNat_of_zero_le hr.1
  have hK : K < 27 := by omega
  have hname : nameOf (K : Int) = nameAt K := by rw [nameOf, if_pos hr]; rfl
  have hfew := ops_few (K : Int)
  obtain ⟨n, hn⟩ : ∃ n, (opsOf (K : Int)).length = n := ⟨_, rfl⟩
  have hval : ∀ k, k < n → rnumAt ((opsOf (K : Int)).getD k 0) (wordOf ((opsOf (K : Int)).getD k 0) ([a, b, c, d].getD k 0)) = [a, b, c, d].getD k 0 ∧ noBlank (wordOf ((opsOf (K : Int)).getD k 0) ([a, b, c, d].getD k 0)) := fun k hk => by
    have hkd := ops_kind (K : Int) k
    have hv := may_valid (by omega) (right_at h k (by omega))
    exact ⟨rback_at hkd.1 hkd.2 hv, (back_at hkd.1 hkd.2 hv).2⟩
  have htext : textOf (K : Int) [a, b, c, d] = (nameAt K).data.toList ++ ((List.range n).map fun j => wordOf ((opsOf (K : Int)).getD j 0) ([a, b, c, d].getD j 0)).flatMap (32 :: ·) := by
    rw [textOf, if_pos h, hname, tail_flat, hn]
  have hnb : noBlank (nameAt K).data.toList := fun c hc e => by
    subst e
    have := name_noBlank K hK
    simp [hc] at this
  have hws : splitW (textOf (K : Int) [a, b, c, d]) = (nameAt K).data.toList :: ((List.range n).map fun j => wordOf ((opsOf (K : Int)).getD j 0) ([a, b, c, d].getD j 0)) := by
    rw [htext]
    refine splitW_join _ _ hnb ?_
    intro w hw
    obtain ⟨j, hj, rfl⟩ := List.mem_map.1 hw
    exact (hval j (List.mem_range.1 hj)).2
  have hop : rOp (textOf (K : Int) [a, b, c, d]) = (K : Int) := by rw [rOp, hws, List.getD_cons_zero, str_bs, named_back K hK]
  have hat : ∀ k, k < 4 → rAt (K : Int) (splitW (textOf (K : Int) [a, b, c, d])) k = [a, b, c, d].getD k 0 := fun k hk => by
    rw [rAt, hws, hn]
    by_cases hkn : k < n
    · rw [if_pos ⟨hkn, by simp; omega⟩, List.getD_cons_succ]
      have : ((List.range n).map fun j => wordOf ((opsOf (K : Int)).getD j 0) ([a, b, c, d].getD j 0)).getD k [] = wordOf ((opsOf (K : Int)).getD k 0) ([a, b, c, d].getD k 0) := by
        rw [List.getD_eq_getElem?_getD, List.getElem?_map, List.getElem?_range hkn]; rfl
      rw [this]
      exact (hval k hkn).1
    · rw [if_neg (fun x => hkn x.1)]
      exact (may_rest hk (by omega) (right_at h k hk)).symm
  have hargs : rArgs (textOf (K : Int) [a, b, c, d]) = [a, b, c, d] := by
    rw [rArgs, hop, hat 0 (by omega), hat 1 (by omega), hat 2 (by omega), hat 3 (by omega)]
    rfl
  have hne : textOf (K : Int) [a, b, c, d] ≠ [] := by
    rw [htext]
    have hx : (nameAt K).data.toList ≠ [] := by
      have : ∀ k, k < 27 → (nameAt k).data.toList ≠ [] := by decide
      exact this K hK
    simp [hx]
  rw [rparse, hop, hargs, if_neg (by simp [hne])]

/-- The document's reading is the program's. -/
theorem rparse_eq (s : List UInt8) : rparse s = parseP s := by
  have four : ∀ {op : Int} {l : List Int}, rparse s = some (op, l) → parseP s = some (op, l) := fun {op l} h => by
    unfold rparse at h
    split at h
    · cases h
    · rename_i hc
      injection h with h
      injection h with h1 h2
      have hs : s ≠ [] := fun e => hc (.inl e)
      have ht : textOf (rOp s) (rArgs s) = s := Classical.byContradiction fun e => hc (.inr e)
      have hr : rightB (rOp s) (rArgs s) = true := by
        cases hr : rightB (rOp s) (rArgs s) with
        | true => rfl
        | false =>
          rw [textOf, hr] at ht
          exact absurd ht.symm hs
      have hp := parse_back (op := rOp s) (a := rAt (rOp s) (splitW s) 0) (b := rAt (rOp s) (splitW s) 1) (c := rAt (rOp s) (splitW s) 2) (d := rAt (rOp s) (splitW s) 3) hr
      have hp2 : parseP (textOf (rOp s) (rArgs s)) = some (rOp s, rArgs s) := hp
      rw [ht] at hp2
      rw [hp2, h1, h2]
  cases h : parseP s with
  | some x =>
    obtain ⟨op, l⟩ := x
    obtain ⟨ht, hr, L, rfl⟩ := parse_sound h
    have hb := rparse_back (op := op) (a := L.getD 0 0) (b := L.getD 1 0) (c := L.getD 2 0) (d := L.getD 3 0) hr
    have hb2 : rparse (textOf op (padded L)) = some (op, padded L) := hb
    rw [ht] at hb2
    exact hb2
  | none =>
    cases h2 : rparse s with
    | none => rfl
    | some x =>
      obtain ⟨op, l⟩ := x
      rw [four h2] at h
      cases h

end Go.Proofs.YtfgnapfodnhppaaGreatDoor
