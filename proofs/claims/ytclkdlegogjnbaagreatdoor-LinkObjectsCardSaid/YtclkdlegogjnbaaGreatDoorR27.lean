/-
  3 texts in one (LinkC LinkD LinkE). Conditions: those of each theorem.
-/
import Derived.Test.YtclkdlegogjnbaaGreatDoorR26
import Derived.Deep.RegionHeld3
namespace Go.Proofs.YtclkdlegogjnbaaGreatDoor
open Go Go.RowKit Go.WideShapes Go.ChangeShapes
set_option linter.unusedVariables false
set_option linter.unusedSimpArgs false
def MetW {α : Type} [DecidableEq α] (kt : TypeId) (ok : α → Prop) (lit : α → List UInt8) (e : TypeId) (size base M : Nat) (w : World) (v : Value) (ks : List α) (x : α) (xs : List Value) (en : Ending) (w' : World) : Prop :=
 if x ∈ ks then en = .returned v ∧ Below w.heap.size w w' else ∃ v', en = .returned v' ∧ MetN kt ok lit e size base M w w' v v' (ks ++ [x]) xs
theorem MetW.yes {α : Type} [DecidableEq α] {kt : TypeId} {ok : α → Prop} {lit : α → List UInt8} {e : TypeId} {size base M : Nat} {w w' : World} {v : Value} {ks : List α} {x : α} {xs : List Value} (h : x ∈ ks) (hb : Below w.heap.size w w') : MetW kt ok lit e size base M w v ks x xs (.returned v) w' := by
 unfold MetW
 rw [if_pos h]
 exact ⟨rfl, hb⟩
theorem MetW.no {α : Type} [DecidableEq α] {kt : TypeId} {ok : α → Prop} {lit : α → List UInt8} {e : TypeId} {size base M : Nat} {w w0 w1 w7 : World} {v v7 : Value} {ks : List α} {x : α} {xs ys : List Value} (h : x ∉ ks) (hb : Below w.heap.size w w0) (hM : w.ownsRow base e size v ks.length ys)
  (hf : Fr (fun b => b = M) w0 w1) (hm : KMap kt ok lit w1 M (ks.length + 1) (fun j => if j = x then some (ks.length : Int) else plT ks j)) (ho : w1.ownsRow base e size v ks.length ys) (ha : App w1 w7 base e size v v7 (ks.length + 1) xs) : MetW kt ok lit e size base M w v ks x xs (.returned v7) w7 := by
 unfold MetW
 rw [if_neg h]
 have hf0 : Fr (fun b => b = M ∨ v.ownBlock = some b) w w0 := (Fr.of_below (S := fun _ => False) hb).mono (fun _ _ x => False.elim x)
 have hf1 := hf0.trans (hf.mono (T := fun b => b = M ∨ v.ownBlock = some b) (fun _ _ e => .inl e))
 refine ⟨v7, rfl, ?_, ?_, hf1.trans (ha.fr.mono (fun _ _ e => .inr e)), ?_⟩
 ·rw [List.length_append]
  exact ha.own
 ·rw [plT_snoc h, List.length_append]
  exact hm.fr ha.fr (fun e => hm.ne_own ho _ e rfl)
 ·rcases ha.at_ with h1 | ⟨g, h1, h2⟩
  ·exact .inl h1
  ·exact .inr ⟨g, h1, Nat.le_trans hf1.size h2⟩
set_option maxHeartbeats 4000000 in
theorem metS_any (base M : Nat) (v : Value) (ks : List ByteArray) (x : ByteArray) (w : World) (hm : KMap 9 okS litS w M ks.length (plT ks)) (ho : w.ownsRow base 9 1 v ks.length (ks.map Value.string)) (hx : okS x) (hl : ks.length ≤ 1000000) (hb : base ≤ w.heap.size) :
  Calls Tryz.prog 51 #[.map (some M), .string x, v, .string x] w (MetW 9 okS litS 9 1 base M w v ks x (ks.map Value.string ++ [.string x])) := by
 obtain ⟨A, c, rfl, _⟩ := own_form ho
 have hlk := (hm.look keyTS uMapSI x hx).1
 by_cases hin : x ∈ ks
 ·rw [plT_yes hin] at hlk
  have HX := Lib.hid (fun w' h => MetW.yes (kt := 9) (ok := okS) (lit := litS) (e := 9) (size := 1) (base := base) (M := M) (w := w) (w' := w') (v := .slice A ks.length c) (ks := ks) (x := x) (xs := ks.map Value.string ++ [.string x]) hin h)
  clear hin hm ho
  go_enter Tryz.func51, Tryz.ntmps51
  go_wp2
  go_ret
  exact HX.out _ (Below.refl _ w)
 ·rw [plT_no hin] at hlk
  obtain ⟨w1, hup, hm1, hf1⟩ := hm.store keyTS uMapSI x (ks.length : Int) hx (wfI (by omega) (by omega)) (by unfold maxLen; omega)
  have ho1 := own_fr ho hf1 (fun k hk e => hm.ne_own ho k hk e)
  obtain ⟨v7, w7, hr7, HA7⟩ := app_one slStr ho1 [.string x] rfl (by intro u hu; simp only [List.mem_cons, List.not_mem_nil, or_false] at hu; subst hu; rfl) hl (by have := hf1.size; omega) 24
  have HX := Lib.hid (MetW.no hin (Below.refl _ w) ho hf1 hm1 ho1 HA7.out)
  have HR := Lib.hid hr7
  clear hr7 hin hm ho hm1 hf1 ho1 HA7
  go_enter Tryz.func51, Tryz.ntmps51
  go_wp2_with (at_builtin; refine wpList_of_append HR.out rfl _ _ rfl rfl rfl ?_)
  go_ret
  exact HX.out
set_option maxHeartbeats 4000000 in
theorem metF_any (base M : Nat) (v : Value) (ks : List (ByteArray × Int)) (x : ByteArray) (n : Int) (w : World) (hm : KMap 112 okF litF w M ks.length (plT ks)) (ho : w.ownsRow base 82 2 v ks.length (ks.flatMap funC)) (hx : okF (x, n)) (hl : ks.length ≤ 1000000) (hb : base ≤ w.heap.size) :
  Calls Tryz.prog 52 #[.map (some M), .agg #[.string x, .int .i64 n], v, .agg #[.string x, .int .i64 n]] w (MetW 112 okF litF 82 2 base M w v ks (x, n) (ks.flatMap funC ++ [.string x, .int .i64 n])) := by
 obtain ⟨A, c, rfl, _⟩ := own_form ho
 have hb0 := two_below w (.cells #[.string x, .int .i64 n] 112) (.cells #[.string x, .int .i64 n] 82)
 have X0 := Lib.hid ((Box.new w 112 #[.string x, .int .i64 n]).alloc (.cells #[.string x, .int .i64 n] 82))
 have Y0 := Lib.hid (Box.new (w.alloc (.cells #[.string x, .int .i64 n] 112)) 82 #[.string x, .int .i64 n])
 rw [World.size_alloc] at Y0
 have hm0 := hm.below hb0
 have ho0 := own_fr (S := fun _ => False) ho (Fr.of_below hb0) (fun _ _ x => x)
 have HO := Lib.hid ho
 have HB0 := Lib.hid hb0
 have HS : Hid (base ≤ ((w.alloc (.cells #[.string x, .int .i64 n] 112)).alloc (.cells #[.string x, .int .i64 n] 82)).heap.size) := Lib.hid (Nat.le_trans hb hb0.size)
 go_enter Tryz.func52, Tryz.ntmps52
 go_upto_region 1 with (fail)
 obtain ⟨w0, hw0⟩ : ∃ w0, (w.alloc (.cells #[.string x, .int .i64 n] 112)).alloc (.cells #[.string x, .int .i64 n] 82) = w0 := ⟨_, rfl⟩
 rw [hw0] at X0 Y0 hm0 ho0 HB0 HS ⊢
 obtain ⟨gy, hgy⟩ : ∃ gy, w.heap.size + 1 = gy := ⟨_, rfl⟩
 rw [hgy] at Y0 ⊢
 obtain ⟨gx, hgx⟩ : ∃ gx, w.heap.size = gx := ⟨_, rfl⟩
 rw [hgx] at X0 ⊢
 clear hw0 hgx hgy hm ho hb hb0
 have c0 := X0.out.cell 0
 have c1 := X0.out.cell 1
 have d0 := Y0.out.cell 0
 have d1 := Y0.out.cell 1
 have hlk := (hm0.look keyTC uMapCI (x, n) hx).1
 unfold valF at hlk
 by_cases hin : (x, n) ∈ ks
 ·rw [plT_yes hin] at hlk
  have HX := Lib.hid (fun w' h => MetW.yes (kt := 112) (ok := okF) (lit := litF) (e := 82) (size := 2) (base := base) (M := M) (w := w) (w' := w') (v := .slice A ks.length c) (ks := ks) (x := (x, n)) (xs := ks.flatMap funC ++ [.string x, .int .i64 n]) hin h)
  clear hin hm0 ho0
  go_wp2
  go_ret
  exact HX.out _ HB0.out
 ·rw [plT_no hin] at hlk
  obtain ⟨w1, hup, hm1, hf1⟩ := hm0.store keyTC uMapCI (x, n) (ks.length : Int) hx (wfI (by omega) (by omega)) (by unfold maxLen; omega)
  unfold valF at hup
  have ho1 := own_fr ho0 hf1 (fun k hk e => hm0.ne_own ho0 k hk e)
  have HY1 := Lib.hid (Y0.out.fr hf1 (fun e => hm0.ne_box Y0.out e.symm))
  have e0 := HY1.out.cell 0
  have e1 := HY1.out.cell 1
  obtain ⟨v7, w7, hr7, HA7⟩ := app_one slFun ho1 [.string x, .int .i64 n] rfl (by intro u hu; simp only [List.mem_cons, List.not_mem_nil, or_false] at hu; rcases hu with rfl | rfl <;> rfl) hl (Nat.le_trans HS.out hf1.size) 33
  have HX := Lib.hid (MetW.no hin HB0.out HO.out hf1 hm1 ho1 HA7.out)
  have HR := Lib.hid hr7
  clear hr7 hin hm0 ho0 hm1 hf1 ho1 HA7
  go_wp2_with (at_builtin; refine wpList_of_append HR.out rfl _ _ rfl rfl rfl ?_)
  go_ret
  exact HX.out
set_option maxHeartbeats 4000000 in
theorem metP_any (base M : Nat) (v : Value) (P : List Pr) (x : ByteArray) (n : Int) (w : World) (hm : KMap 112 okF litF w M (P.map called).length (plT (P.map called))) (ho : w.ownsRow base 64 3 v (P.map called).length (P.flatMap predC)) (hx : okF (x, n)) (hl : (P.map called).length ≤ 1000000) (hb : base ≤ w.heap.size) :
  Calls Tryz.prog 81 #[.map (some M), .agg #[.string x, .int .i64 n], v, .agg #[.string x, .int .i64 n, .int .i64 65535]] w (MetW 112 okF litF 64 3 base M w v (P.map called) (x, n) (P.flatMap predC ++ [.string x, .int .i64 n, .int .i64 65535])) := by
 obtain ⟨A, c, rfl, _⟩ := own_form ho
 have hb0 := two_below w (.cells #[.string x, .int .i64 n] 112) (.cells #[.string x, .int .i64 n, .int .i64 65535] 64)
 have X0 := Lib.hid ((Box.new w 112 #[.string x, .int .i64 n]).alloc (.cells #[.string x, .int .i64 n, .int .i64 65535] 64))
 have Y0 := Lib.hid (Box.new (w.alloc (.cells #[.string x, .int .i64 n] 112)) 64 #[.string x, .int .i64 n, .int .i64 65535])
 rw [World.size_alloc] at Y0
 have hm0 := hm.below hb0
 have ho0 := own_fr (S := fun _ => False) ho (Fr.of_below hb0) (fun _ _ x => x)
 have HO := Lib.hid ho
 have HB0 := Lib.hid hb0
 have HS : Hid (base ≤ ((w.alloc (.cells #[.string x, .int .i64 n] 112)).alloc (.cells #[.string x, .int .i64 n, .int .i64 65535] 64)).heap.size) := Lib.hid (Nat.le_trans hb hb0.size)
 generalize P.map called = ks at *
 generalize P.flatMap predC = pc at *
 go_enter Tryz.func81, Tryz.ntmps81
 go_upto_region 1 with (fail)
 obtain ⟨w0, hw0⟩ : ∃ w0, (w.alloc (.cells #[.string x, .int .i64 n] 112)).alloc (.cells #[.string x, .int .i64 n, .int .i64 65535] 64) = w0 := ⟨_, rfl⟩
 rw [hw0] at X0 Y0 hm0 ho0 HB0 HS ⊢
 obtain ⟨gy, hgy⟩ : ∃ gy, w.heap.size + 1 = gy := ⟨_, rfl⟩
 rw [hgy] at Y0 ⊢
 obtain ⟨gx, hgx⟩ : ∃ gx, w.heap.size = gx := ⟨_, rfl⟩
 rw [hgx] at X0 ⊢
 clear hw0 hgx hgy hm ho hb hb0
 have c0 := X0.out.cell 0
 have c1 := X0.out.cell 1
 have d0 := Y0.out.cell 0
 have d1 := Y0.out.cell 1
 have d2 := Y0.out.cell 2
 have hlk := (hm0.look keyTC uMapCI (x, n) hx).1
 unfold valF at hlk
 by_cases hin : (x, n) ∈ ks
 ·rw [plT_yes hin] at hlk
  have HX := Lib.hid (fun w' h => MetW.yes (kt := 112) (ok := okF) (lit := litF) (e := 64) (size := 3) (base := base) (M := M) (w := w) (w' := w') (v := .slice A ks.length c) (ks := ks) (x := (x, n)) (xs := pc ++ [.string x, .int .i64 n, .int .i64 65535]) hin h)
  clear hin hm0 ho0
  go_wp2
  go_ret
  exact HX.out _ HB0.out
 ·rw [plT_no hin] at hlk
  obtain ⟨w1, hup, hm1, hf1⟩ := hm0.store keyTC uMapCI (x, n) (ks.length : Int) hx (wfI (by omega) (by omega)) (by unfold maxLen; omega)
  unfold valF at hup
  have ho1 := own_fr ho0 hf1 (fun k hk e => hm0.ne_own ho0 k hk e)
  have HY1 := Lib.hid (Y0.out.fr hf1 (fun e => hm0.ne_box Y0.out e.symm))
  have e0 := HY1.out.cell 0
  have e1 := HY1.out.cell 1
  have e2 := HY1.out.cell 2
  obtain ⟨v7, w7, hr7, HA7⟩ := app_one slPred ho1 [.string x, .int .i64 n, .int .i64 65535] rfl (by intro u hu; simp only [List.mem_cons, List.not_mem_nil, or_false] at hu; rcases hu with rfl | rfl | rfl <;> rfl) hl (Nat.le_trans HS.out hf1.size) 36
  have HX := Lib.hid (MetW.no hin HB0.out HO.out hf1 hm1 ho1 HA7.out)
  have HR := Lib.hid hr7
  clear hr7 hin hm0 ho0 hm1 hf1 ho1 HA7
  go_wp2_with (at_builtin; refine wpList_of_append HR.out rfl _ _ rfl rfl rfl ?_)
  go_ret
  exact HX.out
end Go.Proofs.YtclkdlegogjnbaaGreatDoor

namespace Go.Proofs.YtclkdlegogjnbaaGreatDoor
open Go Go.RowKit Go.WideShapes Go.ChangeShapes
set_option linter.unusedVariables false
set_option linter.unusedSimpArgs false
def newI (w : World) : WI := ⟨w.heap.size + 3, w.heap.size, w.heap.size + 1, w.heap.size + 2⟩
def nilK : WV := ⟨.slice none 0 0, .slice none 0 0, .slice none 0 0, .slice none 0 0, .slice none 0 0, .slice none 0 0⟩
theorem Wh.start (w : World) : Wh w ((((w.alloc (.map #[] 0)).alloc (.map #[] 0)).alloc (.map #[] 0)).alloc (.cells #[.slice none 0 0, .slice none 0 0, .slice none 0 0, .slice none 0 0, .map (some w.heap.size), .map (some (w.heap.size + 1)), .map (some (w.heap.size + 2)), .slice none 0 0, .slice none 0 0, .int .i64 0] 75)) (newI w) nilK startLk [] := by
 have h1 := Box.new (((w.alloc (.map #[] 0)).alloc (.map #[] 0)).alloc (.map #[] 0)) 75 #[.slice none 0 0, .slice none 0 0, .slice none 0 0, .slice none 0 0, .map (some w.heap.size), .map (some (w.heap.size + 1)), .map (some (w.heap.size + 2)), .slice none 0 0, .slice none 0 0, .int .i64 0]
 simp only [World.size_alloc] at h1
 have m1 : KMap 9 okS litS (w.alloc (.map #[] 0)) w.heap.size 0 (fun _ => none) := KMap.new w
 have m2 : KMap 112 okF litF ((w.alloc (.map #[] 0)).alloc (.map #[] 0)) (w.alloc (.map #[] 0)).heap.size 0 (fun _ => none) := KMap.new _
 have m3 : KMap 112 okF litF (((w.alloc (.map #[] 0)).alloc (.map #[] 0)).alloc (.map #[] 0)) ((w.alloc (.map #[] 0)).alloc (.map #[] 0)).heap.size 0 (fun _ => none) := KMap.new _
 simp only [World.size_alloc] at m2 m3
 rw [← plT_nil] at m1 m2 m3
 refine ⟨h1, ⟨⟨rfl, .inl ⟨rfl, rfl⟩⟩, ⟨rfl, .inl ⟨rfl, rfl⟩⟩, ⟨rfl, .inl ⟨rfl, rfl⟩⟩, ⟨rfl, .inl ⟨rfl, rfl⟩⟩, ⟨rfl, .inl ⟨rfl, rfl⟩⟩, ⟨rfl, .inl ⟨rfl, rfl⟩⟩, ?_, ?_, ?_, ?_, ?_, ?_⟩⟩
 ·exact ((m1.below (alloc_below _ _)).below (alloc_below _ _)).below (alloc_below _ _)
 ·exact (m2.below (alloc_below _ _)).below (alloc_below _ _)
 ·exact m3.below (alloc_below _ _)
 ·exact ((((Below.refl _ w).alloc (Nat.le_refl _) _).alloc (by simp) _).alloc (by simp; omega) _).alloc (by simp; omega) _
 ·simp [newI]
 ·simp [newI]
set_option maxHeartbeats 2000000 in
theorem newWhole_any (w : World) : Calls Tryz.prog 22 #[] w fun e w' => e = .returned (.pointer (some ⟨(newI w).g, 0, none⟩)) ∧ Wh w w' (newI w) nilK startLk [] := by
 have HS := Lib.hid (Wh.start w)
 have hmm := @run_makeMap Tryz.prog
 unfold newI at HS ⊢
 go_enter Tryz.func22, Tryz.ntmps22
 go_wp2
 go_ret
 exact ⟨rfl, HS.out⟩
theorem boolCell {w : World} {A : Option Addr} {c n : Nat} {l : List Bool} (h : CellsAt w (.slice A n c) l.length (l.map Value.bool)) (k : Nat) (hk : k < l.length) : ∃ b off, A = some ⟨b, off, none⟩ ∧ w.cell? ⟨b, off + k, none⟩ = some (.bool l[k]) := by
 obtain ⟨_, b, off, hA, hl, hc⟩ := h.at_ (by omega)
 exact ⟨b, off, hA, hc k _ (by rw [List.getElem?_map, List.getElem?_eq_getElem hk]; rfl)⟩
set_option maxHeartbeats 2000000 in
theorem indexB_any (l : List Bool) (hm : l.length ≤ 1000000) (v : Value) (w : World) (hv : CellsAt w v l.length (l.map Value.bool)) :
  Calls Tryz.prog 54 #[v, .bool false] w fun e w' => e = .returned (.int .i64 (idxI l false)) ∧ w = w' := by
 obtain ⟨A, c, rfl⟩ := CellsAt.form hv
 have HV := Lib.hid hv
 have HY := Lib.hid (fun k hk h hx => idxI_hit (l := l) (x := false) (k := k) hk h hx)
 have HM := Lib.hid (fun h => idxI_miss (l := l) (x := false) h)
 generalize idxI l false = r at HY HM
 clear hv
 go_enter Tryz.func54, Tryz.ntmps54
 go_wp2
 go_loop [5, 8] (fun _ i => ∃ k : Nat, k ≤ l.length ∧ i = .int .i64 k ∧ Hid (∀ j (hj : j < l.length), j < k → l[j] ≠ false)) (fun _ i => l.length - (intOf i).toNat)
 case atStart => exact ⟨0, by omega, rfl, Lib.hid (fun j hj h => absurd h (by omega))⟩
 case round =>
  obtain ⟨k, hk, rfl, HN⟩ := hrel
  by_cases hlt : k < l.length
  ·obtain ⟨b, off, rfl, hc⟩ := boolCell HV.out k hlt
   cases he : l[k] with
   | false =>
    have HX := Lib.hid (HY.out k hlt HN.out he)
    rw [he] at hc
    clear he
    go_wp2
    go_ret
    exact ⟨by rw [HX.out]; rfl, rfl⟩
   | true =>
    have HN2 : Hid (∀ j (hj : j < l.length), j < k + 1 → l[j] ≠ false) := Lib.hid (fun j hj h => by
     by_cases hjk : j < k
     ·exact HN.out j hj hjk
     ·obtain rfl : j = k := by omega
      rw [he]; decide)
    rw [he] at hc
    clear he
    go_wp2
    go_round
    case rel => exact ⟨k + 1, by omega, by go_num, HN2⟩
    case measure => simp [intOf]; omega
  ·obtain rfl : k = l.length := by omega
   have HX := Lib.hid (HM.out (fun j hj => HN.out j hj (by omega)))
   go_wp2
   go_ret
   exact ⟨by rw [HX.out]; rfl, rfl⟩
theorem unknownK_eq (s : Lk) : unknownK s = if 0 ≤ idxI s.begun false then s.homes.getD (idxI s.begun false).toNat 0 else -1 := by
 have e : (fun b : Bool => !b) = fun y => decide (y = false) := by funext b; cases b <;> rfl
 unfold unknownK idxI
 rw [e]
 by_cases h : false ∈ s.begun
 ·have := place_lt h
  unfold placeOf at this ⊢
  rw [if_pos this, if_pos h, if_pos (by omega)]
  simp
 ·have := place_miss s.begun false h
  unfold placeOf at this
  rw [if_neg h, this, if_neg (by omega), if_neg (by omega)]
theorem intCellR {w : World} {A : Option Addr} {c n : Nat} {l : List Int} (h : CellsAt w (.slice A n c) l.length (l.map (Value.int .i64))) (k : Nat) (hk : k < l.length) : ∃ b off, A = some ⟨b, off, none⟩ ∧ w.cell? ⟨b, off + k, none⟩ = some (.int .i64 l[k]) := by
 obtain ⟨_, b, off, hA, hl, hc⟩ := h.at_ (by omega)
 exact ⟨b, off, hA, hc k _ (by rw [List.getElem?_map, List.getElem?_eq_getElem hk]; rfl)⟩
set_option maxHeartbeats 4000000 in
theorem unknown_any (w0 : World) (I : WI) (K : WV) (s : Lk) (cd : List Ins) (hl : s.begun.length ≤ 1000000 ∧ s.homes.length = s.begun.length) (w : World) (hk : Wh w0 w I K s cd) :
  Calls Tryz.prog 24 #[.pointer (some ⟨I.g, 0, none⟩)] w fun e w' => e = .returned (.int .i64 (unknownK s)) ∧ w = w' := by
 obtain ⟨va, vf, vp, vc, vh, vb⟩ := K
 obtain ⟨A7, c7, hvh, _⟩ := own_form hk.r.rh
 obtain ⟨A8, c8, hvb, _⟩ := own_form hk.r.rb
 simp only at hvh hvb
 subst hvh hvb
 have q7 := hk.box.cell 7
 have q8 := hk.box.cell 8
 have HI := Lib.hid (indexB_any s.begun hl.1 _ w (CellsAt.of_own hk.r.rb (by decide)))
 have HH := Lib.hid (CellsAt.of_own hk.r.rh (by decide))
 have HU := Lib.hid (unknownK_eq s)
 have HLT : Hid (∀ i : Int, idxI s.begun false = i → 0 ≤ i → i < s.begun.length) := Lib.hid (fun i e h => by
  unfold idxI at e
  split at e
  ·rename_i h1
   have := place_lt h1
   omega
  ·omega)
 generalize unknownK s = r at HU
 generalize hi : idxI s.begun false = i at HI HU
 have HLT2 := Lib.hid (HLT.out i hi)
 clear hk hi HLT
 by_cases h0 : 0 ≤ i
 ·obtain ⟨m, rfl⟩ := Int.eq_ofNat_of_zero_le h0
  have hm := HLT2.out h0
  have hm2 : m < s.homes.length := by omega
  obtain ⟨b, off, rfl, d0⟩ := intCellR HH.out m hm2
  have HX : Hid (r = s.homes[m]) := Lib.hid (by
   rw [HU.out, if_pos h0]
   simp [List.getD_eq_getElem?_getD, List.getElem?_eq_getElem hm2])
  have i1 : (m : Int) < (s.homes.length : Int) := by omega
  generalize s.homes[m] = z at d0 HX
  go_enter Tryz.func24, Tryz.ntmps24
  go_wp2_with (go_at_call 54; refine HI.out.mono ?_; rintro e w2 ⟨rfl, rfl⟩)
  go_ret
  exact ⟨by rw [HX.out]; rfl, rfl⟩
 ·have HX : Hid (r = -1) := Lib.hid (by rw [HU.out, if_neg h0])
  go_enter Tryz.func24, Tryz.ntmps24
  go_wp2_with (go_at_call 54; refine HI.out.mono ?_; rintro e w2 ⟨rfl, rfl⟩)
  go_ret
  exact ⟨by rw [HX.out]; rfl, rfl⟩
set_option maxHeartbeats 4000000 in
theorem wfull_any (w0 : World) (I : WI) (K : WV) (s : Lk) (cd : List Ins) (w : World) (hk : Wh w0 w I K s cd) :
  Calls Tryz.prog 25 #[.pointer (some ⟨I.g, 0, none⟩)] w fun e w' => e = .returned (.bool (decide (256 < s.atoms.length ∨ 256 < s.funs.length ∨ 64 < s.preds.length ∨ 1024 < s.n))) ∧ Below w.heap.size w w' := by
 obtain ⟨va, vf, vp, vc, vh, vb⟩ := K
 obtain ⟨A1, c1, hva, _⟩ := own_form hk.r.ra
 obtain ⟨A2, c2, hvf, _⟩ := own_form hk.r.rf
 obtain ⟨A3, c3, hvp, _⟩ := own_form hk.r.rp
 obtain ⟨A4, c4, hvc, _⟩ := own_form hk.r.rc
 simp only at hva hvf hvp hvc
 subst hva hvf hvp hvc
 have q0 := hk.box.cell 0
 have q1 := hk.box.cell 1
 have q2 := hk.box.cell 2
 have q3 := hk.box.cell 3
 have HBW := Lib.hid (fun oo => alloc_below w oo)
 have HB9 := Lib.hid (fun oo => (hk.box.alloc oo).cell 9)
 obtain ⟨r, hr⟩ : ∃ r, decide (256 < s.atoms.length ∨ 256 < s.funs.length ∨ 64 < s.preds.length ∨ 1024 < s.n) = r := ⟨_, rfl⟩
 rw [hr]
 generalize s.atoms.length = n0 at q0 hr
 generalize s.funs.length = n1 at q1 hr
 generalize s.preds.length = n2 at q2 hr
 generalize cd.length = n3 at q3
 have HR := Lib.hid hr
 have HO : ∃ w1, w.alloc (.cells #[.slice A1 n0 c1, .slice A2 n1 c2, .slice A3 n2 c3, .slice A4 n3 c4] 39) = w1 ∧ Hid (Below w.heap.size w w1) ∧ Hid (Box w1 w.heap.size 39 #[.slice A1 n0 c1, .slice A2 n1 c2, .slice A3 n2 c3, .slice A4 n3 c4]) ∧ w1.cell? ⟨I.g, 9, none⟩ = some (.int .i64 s.n) := ⟨_, rfl, Lib.hid (HBW.out _), Lib.hid (Box.new w _ _), HB9.out _⟩
 generalize s.n = nn at HR HO hr
 clear hk hr HB9 HBW
 go_enter Tryz.func25, Tryz.ntmps25
 go_upto_region 2 with (fail)
 obtain ⟨w1, hw1, HB, HX, q9⟩ := HO
 rw [hw1]
 obtain ⟨gx, hgx⟩ : ∃ gx, w.heap.size = gx := ⟨_, rfl⟩
 rw [hgx] at HX ⊢
 clear hw1 hgx
 have x0 := HX.out.cell 0
 have x1 := HX.out.cell 1
 have x2 := HX.out.cell 2
 by_cases h0 : (256 : Int) < (n0 : Int)
 ·have HZ : Hid (r = true) := Lib.hid (by rw [← HR.out]; simp; omega)
  go_wp2
  go_ret
  exact ⟨by rw [HZ.out]; rfl, HB.out⟩
 by_cases h1 : (256 : Int) < (n1 : Int)
 ·have HZ : Hid (r = true) := Lib.hid (by rw [← HR.out]; simp; omega)
  go_wp2
  go_ret
  exact ⟨by rw [HZ.out]; rfl, HB.out⟩
 by_cases h2 : (64 : Int) < (n2 : Int)
 ·have HZ : Hid (r = true) := Lib.hid (by rw [← HR.out]; simp; omega)
  go_wp2
  go_ret
  exact ⟨by rw [HZ.out]; rfl, HB.out⟩
 by_cases h3 : (1024 : Int) < nn
 ·have HZ : Hid (r = true) := Lib.hid (by rw [← HR.out]; simp; omega)
  go_wp2
  go_ret
  exact ⟨by rw [HZ.out]; rfl, HB.out⟩
 have HZ : Hid (r = false) := Lib.hid (by rw [← HR.out]; simp; omega)
 go_wp2
 go_ret
 exact ⟨by rw [HZ.out]; rfl, HB.out⟩
end Go.Proofs.YtclkdlegogjnbaaGreatDoor

namespace Go.Proofs.YtclkdlegogjnbaaGreatDoor
open Go Go.RowKit Go.WideShapes Go.ChangeShapes
set_option linter.unusedVariables false
set_option linter.unusedSimpArgs false
theorem tkH {P : Program} {md : Region.Mode} {ops : Array Oper} {Q : Exit → Act → World → Prop} {S : World → Prop} {i : Nat} {oi : Oper} {v : Value} {f : Nat} {L : Array Bool} {a : Act} {w : World} (hi : ops[i]? = some oi) (hQ : ∀ c a w, Q (.panic c) (a.put oi.dst v) w → Q (.panic c) a w) (hy : YieldsIf P ops S oi v a) (hS : S w)
  (h : wpAnyH P md ops Q S f (L.setIfInBounds i true) (a.put oi.dst v) w) (hs : Region.noSelect ops = true := by kernel_rfl) (hf : Region.free md ops L i = true := by kernel_rfl) (hr : (Region.ready md ops L).contains i = true := by kernel_rfl) : wpAnyH P md ops Q S (f + 1) L a w :=
 wpAnyH_take hi hs hf hr hQ hy hS h
def hadOr {α β : Type} [DecidableEq α] (x : α) (l : List α) (a b : β) : β := if x ∈ l then a else b
def predG (n : Int) (s : Lk) (f : ByteArray × Int) : Lk := hadOr f (s.preds.map called) s { s with preds := s.preds ++ [(f.1, f.2, 65535)], homes := s.homes ++ [n], begun := s.begun ++ [false] }
def Even3 (s : Lk) : Prop := s.homes.length = s.preds.length ∧ s.begun.length = s.preds.length
theorem predG_even {n : Int} {s : Lk} {f : ByteArray × Int} (h : Even3 s) : Even3 (predG n s f) := by
 unfold predG hadOr
 split
 ·exact h
 ·obtain ⟨h1, h2⟩ := h
  exact ⟨by simp [h1], by simp [h2]⟩
theorem predG_mem (n : Int) (s : Lk) (f : ByteArray × Int) : f ∈ (predG n s f).preds.map called := by
 unfold predG hadOr
 split
 ·assumption
 ·simp [called]
theorem predG_len (n : Int) (s : Lk) (f : ByteArray × Int) : (predG n s f).preds.length ≤ s.preds.length + 1 := by
 unfold predG hadOr
 split <;> simp
theorem place_snoc {α : Type} [DecidableEq α] {l : List α} {x : α} (h : x ∉ l) : placeOf (l ++ [x]) x = l.length := by
 have h1 := plT_snoc h
 have h2 := congrFun h1 x
 rw [if_pos rfl, plT_yes (by simp)] at h2
 injection h2 with h2
 omega
theorem predK_eq {n : Int} {s : Lk} {p : Pr} (h : Even3 s) : predK n s p = if p.2.2 = 65535 then some (predG n s (called p)) else if (predG n s (called p)).begun.getD (placeOf ((predG n s (called p)).preds.map called) (called p)) false = true then none else some { predG n s (called p) with begun := (predG n s (called p)).begun.set (placeOf ((predG n s (called p)).preds.map called) (called p)) true } := by
 obtain ⟨h1, h2⟩ := h
 unfold predK predG hadOr
 rcases predIn_at s.preds (called p) with ⟨hm, he, h0, hlt⟩ | ⟨hm, he⟩
 ·have hpl := findFrom_pl (called p).1 (called p).2 s.preds 0 hm
  simp only [he, hpl]
  rw [if_pos hm]
  have e : ¬ s.homes.length < s.preds.length := by omega
  simp [e]
 ·simp only [he]
  rw [if_neg hm]
  have e : s.homes.length < (s.preds ++ [((called p).1, (called p).2, (65535 : Int))]).length := by simp; omega
  have hpl : placeOf ((s.preds ++ [((called p).1, (called p).2, (65535 : Int))]).map called) (called p) = s.preds.length := by
   rw [List.map_append]
   have := place_snoc hm
   simpa [called] using this
  simp only [hpl, if_pos e]
  simp
theorem MetW.of_yes {α : Type} [DecidableEq α] {kt : TypeId} {ok : α → Prop} {lit : α → List UInt8} {e : TypeId} {size base M : Nat} {w w' : World} {v : Value} {ks : List α} {x : α} {xs : List Value} {en : Ending} (h : x ∈ ks) (k : MetW kt ok lit e size base M w v ks x xs en w') : en = .returned v ∧ Below w.heap.size w w' := by
 unfold MetW at k
 rw [if_pos h] at k
 exact k
theorem MetW.of_no {α : Type} [DecidableEq α] {kt : TypeId} {ok : α → Prop} {lit : α → List UInt8} {e : TypeId} {size base M : Nat} {w w' : World} {v : Value} {ks : List α} {x : α} {xs : List Value} {en : Ending} (h : x ∉ ks) (k : MetW kt ok lit e size base M w v ks x xs en w') : ∃ v', en = .returned v' ∧ MetN kt ok lit e size base M w w' v v' (ks ++ [x]) xs := by
 unfold MetW at k
 rw [if_neg h] at k
 exact k
def EnW (w0 w : World) (I : WI) (K : WV) (cd : List Ins) (r : Option Lk) (e : Ending) (w' : World) : Prop :=
 match r with
 | none => e = .returned (.bool false) ∧ Below w0.heap.size w0 w'
 | some s' => ∃ K', e = .returned (.bool true) ∧ Wh w0 w' I K' s' cd ∧ WhF w w' I K K'
theorem enW_none {w0 w w' : World} {I : WI} {K : WV} {cd : List Ins} {r : Option Lk} (h : r = none) (hb : Below w0.heap.size w0 w') : EnW w0 w I K cd r (.returned (.bool false)) w' := by
 subst h
 exact ⟨rfl, hb⟩
theorem enW_some {w0 w w' : World} {I : WI} {K K' : WV} {cd : List Ins} {r : Option Lk} {s' : Lk} (h : r = some s') (hk : Wh w0 w' I K' s' cd) (hf : WhF w w' I K K') : EnW w0 w I K cd r (.returned (.bool true)) w' := by
 subst h
 exact ⟨K', rfl, hk, hf⟩
theorem slIntL : SlT 53 3 1 8 := ⟨Tryz.underlying53, ⟨.int .i64 0, by kernel_rfl, rfl⟩, by decide, by decide⟩
theorem slBoolL : SlT 73 4 1 1 := ⟨Tryz.underlying73, ⟨.bool false, by kernel_rfl, rfl⟩, by decide, by decide⟩
theorem app_box {t e : TypeId} {size bytes : Nat} (T : SlT t e size bytes) {w : World} {base n : Nat} {v : Value} {xs : List Value} (hown : w.ownsRow base e size v n xs) {gx : Nat} (news : List Value) (hb : Box w gx e news.toArray) (hl : news.length = size)
  (h1 : ∀ u ∈ news, u.oneCell' = true) (hn : n ≤ 1000000) (hbase : base ≤ w.heap.size) (ty : TypeId) :
  ∃ v' w', (Builtin.append_ #[t, t] ty #[v, .slice (some ⟨gx, 0, none⟩) 1 1]).run Tryz.prog w = .ok v' w' ∧ Hid (App w w' base e size v v' (n + 1) (xs ++ news)) := by
 obtain ⟨z, hi, hzs⟩ := T.info
 obtain ⟨i, hi1, hz0, hz1, hz2⟩ := info_parts hi
 have hT := T.pos
 have hsm := T.small
 have hbb : (n + 1) * bytes ≤ 140737488355328 := Nat.le_trans (Nat.mul_le_mul (show n + 1 ≤ 1000001 by omega) hsm) (by decide)
 obtain ⟨v', w', hr, h2, h3, _, h5⟩ := run_append_own_at (P := Tryz.prog) w base t ty e i z size bytes T.und hi1 hz0 hz1 hz2 hzs T.pos v n xs
  hown ⟨gx, 0, none⟩ 1 1 news (by omega) (fun j u hu => by
   rw [add_plain, Nat.zero_add, hb.cell j]
   simpa using hu) h1 (by unfold maxLen; omega) hbb hbase
 refine ⟨v', w', hr, Lib.hid ⟨h2, Fr.of_grown h3 fun _ _ e => e, ?_, own_form h2 |>.imp fun _ ⟨c, h, _⟩ => ⟨c, h⟩⟩⟩
 rcases h5 with h5 | h5
 ·exact .inl h5
 ·exact .inr ⟨_, h5, Nat.le_refl _⟩
end Go.Proofs.YtclkdlegogjnbaaGreatDoor
