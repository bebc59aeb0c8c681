/-
  A term in words: the model; the program's appendList over its appendTerm, by a contract.
-/
import Derived.Test.YtkfmagbaklikmaaDoorParseB
import Derived.Test.YtkfmagbaklikmaaDoorTermB
import Derived.Lib.AppendStr
import Derived.Lib.OthersKept
namespace Go.Proofs.YtkfmagbaklikmaaDoor
open Go Go.RowKit
set_option linter.unusedVariables false
set_option linter.unusedSimpArgs false

mutual
def Tm.text : Tm → List UInt8
  | .node k n s l => if k = 0 then 88 :: Lib.itoa n else if k = 1 then s.data.toList else if k = 2 then s.data.toList ++ 40 :: ((more 44 l).drop 1 ++ [41]) else if k = 3 then 91 :: ((more 124 l).drop 1 ++ [93]) else []
def more (c : UInt8) : List Tm → List UInt8
  | [] => []
  | t :: r => c :: (t.text ++ more c r)
end
theorem more_snoc (c : UInt8) (l : List Tm) (t : Tm) : more c (l ++ [t]) = more c l ++ c :: t.text := by
  induction l with
  | nil => simp [more]
  | cons a r ih => simp [more, ih]
theorem more_take (c : UInt8) (l : List Tm) (j : Nat) (h : j < l.length) : more c (l.take (j + 1)) = more c (l.take j) ++ c :: l[j].text := by rw [take_snoc l j h, more_snoc]
theorem more_take_le (c : UInt8) (l : List Tm) (j : Nat) : (more c (l.take j)).length ≤ (more c l).length := by
  induction l generalizing j with
  | nil => simp
  | cons a r ih =>
    cases j with
    | zero => simp [more]
    | succ j => have := ih j; simp [more]; omega
theorem more_pos (c : UInt8) (l : List Tm) (j : Nat) (h : 0 < j) (hj : j ≤ l.length) : 1 ≤ (more c (l.take j)).length := by
  obtain ⟨k, rfl⟩ : ∃ k, j = k + 1 := ⟨j - 1, by omega⟩
  rw [more_take c l k (by omega)]
  simp
  omega

def TxtOk (B : Nat) (w : World) (n : Nat) (xs : List Value) (bs : List UInt8) (e : Ending) (w' : World) : Prop :=
  ∃ v', e = .returned v' ∧ w'.ownsRow B 5 1 v' (n + bs.length) (xs ++ Lib.byteCells bs) ∧ Below B w w' ∧ Lib.OthersKept 5 none w w'
def TextC (B f : Nat) : Prop := ∀ (t : Tm) (v : Value) (w : World) (S : Nat → Prop) (sv : Value) (n : Nat) (xs : List Value), Reads w S f t v → (∀ b, S b → b < B) → w.ownsRow B 5 1 sv n xs → B ≤ w.heap.size →
  Lib.TabBelow Tryd.prog B w "internal/strconv.uint64pow10" .u64 Lib.pow10Tab → n + t.text.length + 21 ≤ 140737488355328 → Calls Tryd.prog 23 #[sv, v] w fun e w' => TxtOk B w n xs t.text e w'

theorem Box.kept {w w' : World} {g : Nat} {t e : TypeId} {cs : Array Value} (h : Box w g t cs) (hk : Lib.OthersKept e none w w') (hne : t ≠ e) : Box w' g t cs := by
  refine hk g _ h (by simp) ?_
  intro c fz hc
  injection hc with _ ht
  exact hne ht
theorem kept_grown {w w' w'' : World} {base : Nat} {e : TypeId} {size n : Nat} {v : Value} {xs : List Value} (h : Lib.OthersKept e none w w') (ho : w'.ownsRow base e size v n xs) (hg : w'.grownBy w'' v.ownBlock) : Lib.OthersKept e none w w'' := by
  intro k o hk hb hc
  have h1 := h k o hk hb hc
  refine (hg.block k (Array.getElem?_eq_some_iff.1 h1).1 ?_).trans h1
  intro e1
  rcases ho.2 with ⟨rfl, _⟩ | ⟨g', cap, cur, rfl, _, hh, _⟩
  · simp [Value.ownBlock] at e1
  · have e2 : k = g' := by simpa [Value.ownBlock] using e1
    subst e2
    rw [hh] at h1
    exact hc cur (0, 0) (Option.some.inj h1).symm
theorem info5 : (Tryd.prog.info? 5).map (fun i => (i.zero, i.size, i.bytes)) = some (some (.int .u8 0), 1, 1) := by kernel_rfl
theorem byteCells_app (a b : List UInt8) : Lib.byteCells (a ++ b) = Lib.byteCells a ++ Lib.byteCells b := by simp [Lib.byteCells]
theorem own_below {B : Nat} {w w' : World} {e : TypeId} {size n : Nat} {v : Value} {xs : List Value} (h : w.ownsRow B e size v n xs) (hb : Below w.heap.size w w') : w'.ownsRow B e size v n xs :=
  own_fr (S := fun _ => False) h (Fr.of_below hb) (fun _ _ x => x)

set_option maxHeartbeats 2000000 in
set_option maxRecDepth 100000 in
theorem list_text {B f : Nat} (ih : TextC B f) (l : List Tm) (A : Option Addr) (c : Nat) (sep : UInt8) (w : World) (S : Nat → Prop) (sv : Value) (n : Nat) (xs : List Value) (hc : l.length ≤ c) (hcm : c ≤ maxLen)
    (hp : ∀ i (h : i < l.length), ∃ b off v0 v1 v2 v3, A = some ⟨b, off, none⟩ ∧ S b ∧ w.cell? ⟨b, off + i * 4, none⟩ = some v0 ∧ w.cell? ⟨b, off + i * 4 + 1, none⟩ = some v1 ∧
        w.cell? ⟨b, off + i * 4 + 2, none⟩ = some v2 ∧ w.cell? ⟨b, off + i * 4 + 3, none⟩ = some v3 ∧ Reads w S f l[i] (.agg #[v0, v1, v2, v3]))
    (hS : ∀ b, S b → b < B) (ho : w.ownsRow B 5 1 sv n xs) (hB : B ≤ w.heap.size) (ht : Lib.TabBelow Tryd.prog B w "internal/strconv.uint64pow10" .u64 Lib.pow10Tab) (hn : n + (more sep l).length + 21 ≤ 140737488355328) :
    Calls Tryd.prog 34 #[sv, .slice A l.length c, .int .u8 ((sep.toNat : Nat) : Int)] w fun e w' => TxtOk B w n xs ((more sep l).drop 1) e w' := by
  have IH := Lib.hid ih
  have HP := Lib.hid hp
  have HO := Lib.hid ho
  have HT := Lib.hid ht
  have HS := Lib.hid hS
  obtain ⟨i0, hi, hz0, hz1, hz2⟩ := info_parts info5
  have HI := Lib.hid hi
  have HZ0 := Lib.hid hz0
  have HZ1 := Lib.hid hz1
  have HZ2 := Lib.hid hz2
  unfold maxLen at hcm
  clear ih hp ho ht hS hi hz0 hz1 hz2
  go_enter Tryd.func34, Tryd.ntmps34
  go_wp2_with fail
  go_loopw [0, 11] (fun a i wr => ∃ (j : Nat) (vs : Value) (bs : List UInt8), a = vs ∧ i = .int .i64 ((j : Nat) : Int) ∧ j ≤ l.length ∧ Hid (bs = (more sep (l.take j)).drop 1) ∧ Hid (wr.ownsRow B 5 1 vs (n + bs.length) (xs ++ Lib.byteCells bs)) ∧ Hid (Below B w wr) ∧ Hid (Lib.OthersKept 5 none w wr)) (fun _ i _ => l.length - (intOf i).toNat)
  case atStart => exact ⟨0, _, [], rfl, rfl, Nat.zero_le _, by simp [Hid, more], by simpa [Hid, Lib.byteCells] using HO.out, Below.refl _ _, Lib.OthersKept.refl _ _ _⟩
  case round =>
    obtain ⟨j, vs, bs, rfl, rfl, hj, HBS, HR, HB, HK⟩ := hrel
    clear HO
    obtain ⟨AR, cR, hv, _⟩ := own_form HR.out
    subst hv
    by_cases hlt : j < l.length
    · obtain ⟨b, off, v0, v1, v2, v3, rfl, hb, c0, c1, c2, c3, hr⟩ := HP.out j hlt
      obtain ⟨k1, n1, s1, A1, l1, cp1, hv⟩ := hr.form
      simp only [Value.agg.injEq, Array.mk.injEq, List.cons.injEq, and_true] at hv
      obtain ⟨rfl, rfl, rfl, rfl⟩ := hv
      have hbB : b < B := HS.out b hb
      have q0 := (HB.out.cell (p := ⟨b, off + j * 4, none⟩) hbB).trans c0
      have q1 := (HB.out.cell (p := ⟨b, off + j * 4 + 1, none⟩) hbB).trans c1
      have q2 := (HB.out.cell (p := ⟨b, off + j * 4 + 2, none⟩) hbB).trans c2
      have q3 := (HB.out.cell (p := ⟨b, off + j * 4 + 3, none⟩) hbB).trans c3
      have HRd := Lib.hid (hr.below HB.out HS.out)
      have e1 := more_take sep l j hlt
      have e2 := more_take_le sep l (j + 1)
      have e1l : (more sep (l.take (j + 1))).length = (more sep (l.take j)).length + 1 + l[j].text.length := by rw [e1]; simp; omega
      have HE1 := Lib.hid e1
      have hsz := HB.out.size
      have hbl : bs.length = (more sep (l.take j)).length - 1 := by rw [HBS.out]; simp
      have HRA := Lib.hid (own_below HR.out ((Below.refl wr.heap.size wr).alloc (Nat.le_refl _) (.cells #[.int .i64 k1, .int .i64 n1, .string s1, .slice A1 l1 cp1] 28)))
      have HKA := Lib.hid (HK.out.alloc (.cells #[.int .i64 k1, .int .i64 n1, .string s1, .slice A1 l1 cp1] 28))
      have HBA := Lib.hid (HB.out.alloc (Nat.le_trans hB hsz) (.cells #[.int .i64 k1, .int .i64 n1, .string s1, .slice A1 l1 cp1] 28))
      have HRdA := Lib.hid (HRd.out.below ((Below.refl B wr).alloc (by omega) (.cells #[.int .i64 k1, .int .i64 n1, .string s1, .slice A1 l1 cp1] 28)) HS.out)
      have hla : l[j].text.length + n + (more sep (l.take j)).length + 22 ≤ 140737488355328 := by omega
      clear c0 c1 c2 c3 hr e1 e2 e1l HP
      by_cases h0 : j = 0
      · have hb0 : bs = [] := by rw [HBS.out, h0]; simp [more]
        subst hb0
        have h0I : ¬ (0 : Int) < (j : Int) := by omega
        have HC := Lib.hid (IH.out l[j] (.agg #[.int .i64 k1, .int .i64 n1, .string s1, .slice A1 l1 cp1]) (wr.alloc (.cells #[.int .i64 k1, .int .i64 n1, .string s1, .slice A1 l1 cp1] 28)) S _ _ _ HRdA.out HS.out HRA.out (by have := HBA.out.size; omega) (HT.out.on HBA.out) (by simp only [List.length_nil]; omega))
        have HX : Hid ((more sep (l.take (j + 1))).drop 1 = l[j].text) := by
          show _ = _
          have e0 : more sep (l.take j) = [] := by rw [h0]; simp [more]
          rw [HE1.out, e0]
          rfl
        clear hla hbl h0
        go_wp2_with (go_at_call 23; refine HC.out.mono ?_; rintro e w5 ⟨v5, rfl, hown5, hb5, hk5⟩; have HK5 := Lib.hid (HKA.out.trans hk5); obtain ⟨A5, c5, hv5, _⟩ := own_form hown5; subst hv5; have HO5 := Lib.hid hown5; have HB5 := Lib.hid (HBA.out.trans hb5); clear hown5 hb5 hk5)
        go_roundw
        case rel =>
          refine ⟨j + 1, _, l[j].text, rfl, by go_num, by omega, HX.out.symm, ?_, HB5.out, HK5.out⟩
          simpa [Lib.byteCells, Hid] using HO5.out
        case measure => simp [intOf]; omega
      · have h0I : (0 : Int) < (j : Int) := by omega
        have hpos := more_pos sep l j (by omega) (by omega)
        have HRB := Lib.hid (own_below HRA.out ((Below.refl (wr.alloc (.cells #[.int .i64 k1, .int .i64 n1, .string s1, .slice A1 l1 cp1] 28)).heap.size (wr.alloc (.cells #[.int .i64 k1, .int .i64 n1, .string s1, .slice A1 l1 cp1] 28))).alloc (Nat.le_refl _) (.cells #[.int .u8 ((sep.toNat : Nat) : Int)] 5)))
        have hbx : Box ((wr.alloc (.cells #[.int .i64 k1, .int .i64 n1, .string s1, .slice A1 l1 cp1] 28)).alloc (.cells #[.int .u8 ((sep.toNat : Nat) : Int)] 5)) wr.heap.size 28 #[.int .i64 k1, .int .i64 n1, .string s1, .slice A1 l1 cp1] := (Box.new wr _ _).alloc _
        have HBX := Lib.hid hbx
        have HBB := Lib.hid (HBA.out.alloc (by have := HBA.out.size; omega) (.cells #[.int .u8 ((sep.toNat : Nat) : Int)] 5))
        have HRL := Lib.hid (fun k (hk : Value.ownBlock (.slice AR (n + bs.length) cR) = some k) => (HR.out.lt k hk))
        have HLA := Lib.hid hla
        have HBLN := Lib.hid hbl
        clear hbx hla hbl
        go_wp2_with (first
          | (go_at_call 23; refine HC.out.mono ?_; rintro e w7 ⟨v7, rfl, hown7, hb7, hk7⟩; have HK7 := Lib.hid (HK6.out.trans hk7); obtain ⟨A7, c7, hv7, _⟩ := own_form hown7; subst hv7; have HO7 := Lib.hid hown7; have HB7 := Lib.hid (HB6.out.trans hb7); clear hown7 hb7 hk7)
          | (at_builtin; refine wpList_append_own _ rfl (.tmp 18) (.tmp 20) 50 rfl B 5 i0 (.int .u8 0) 1 1 Tryd.underlying50 HI.out HZ0.out HZ1.out HZ2.out rfl (by decide) _ _ _ rfl HRB.out ⟨wr.heap.size + 1, 0, none⟩ 1 1 [.int .u8 ((sep.toNat : Nat) : Int)] rfl rfl (by intro jj u hu; have e4 := cell_one_new (wr.alloc (.cells #[.int .i64 k1, .int .i64 n1, .string s1, .slice A1 l1 cp1] 28)) (.int .u8 ((sep.toNat : Nat) : Int)) 5 jj u hu; simpa using e4) (one_word _ _) (by have := HLA.out; have := HBLN.out; unfold maxLen; omega) (by have := HLA.out; have := HBLN.out; omega) (by have := HBB.out.size; omega) ?_; intro v6 w6 hown6 hgr6 _; have hf6 := Fr.of_grown (S := fun b => Value.ownBlock (.slice AR (n + bs.length) cR) = some b) hgr6 (fun _ _ e => e); have HK6 := Lib.hid (kept_grown (HKA.out.alloc (.cells #[.int .u8 ((sep.toNat : Nat) : Int)] 5)) HRB.out hgr6); have HB6 := Lib.hid (HBB.out.trans (hf6.below (by have := HBB.out.size; omega) (fun b e => (HRL.out b e).1))); have BX6 := Lib.hid (HBX.out.fr hf6 (fun e => by have := (HRL.out _ e).2; omega)); have x0 : w6.cell? ⟨wr.heap.size, 0, none⟩ = some (.int .i64 k1) := BX6.out.cell 0; have x1 : w6.cell? ⟨wr.heap.size, 1, none⟩ = some (.int .i64 n1) := BX6.out.cell 1; have x2 : w6.cell? ⟨wr.heap.size, 2, none⟩ = some (.string s1) := BX6.out.cell 2; have x3 : w6.cell? ⟨wr.heap.size, 3, none⟩ = some (.slice A1 l1 cp1) := BX6.out.cell 3; have HC := Lib.hid (IH.out l[j] (.agg #[.int .i64 k1, .int .i64 n1, .string s1, .slice A1 l1 cp1]) w6 S _ _ _ (HRd.out.fr ((((Fr.refl _ wr).alloc _).alloc _).trans hf6) (fun b hb => ⟨by have := HS.out b hb; omega, fun e => by have := (HRL.out b e).1; have := HS.out b hb; omega⟩)) HS.out hown6 (by have := HB6.out.size; omega) (HT.out.on HB6.out) (by have := HLA.out; have := HBLN.out; omega)); obtain ⟨A6, c6, hv6, _⟩ := own_form hown6; rw [hv6] at HC ⊢; clear hv6 hown6 hgr6 hf6))
        go_roundw
        case rel =>
          refine ⟨j + 1, _, bs ++ sep :: l[j].text, rfl, by go_num, by omega, ?_, ?_, HB7.out, HK7.out⟩
          · show _ = _
            rw [HE1.out, HBS.out, List.drop_append_of_le_length hpos]
          · have e := HO7.out
            have e2 : n + (bs ++ sep :: l[j].text).length = n + bs.length + 1 + l[j].text.length := by simp; omega
            have e3 : xs ++ Lib.byteCells (bs ++ sep :: l[j].text) = xs ++ Lib.byteCells bs ++ [Value.int .u8 ((sep.toNat : Nat) : Int)] ++ Lib.byteCells l[j].text := by simp [Lib.byteCells]
            show World.ownsRow _ _ _ _ _ _ _
            rw [e2, e3]
            exact e
        case measure => simp [intOf]; omega
    · have hge : (l.length : Int) ≤ (j : Int) := by omega
      have HX : Hid ((more sep l).drop 1 = bs) := by
        show _ = _
        rw [HBS.out, List.take_of_length_le (by omega)]
      go_wp2_with fail
      go_ret
      rw [HX.out]
      exact ⟨_, rfl, HR.out, HB.out, HK.out⟩
end Go.Proofs.YtkfmagbaklikmaaDoor
