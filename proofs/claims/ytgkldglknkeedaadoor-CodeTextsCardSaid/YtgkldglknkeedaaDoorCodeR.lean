/-
  The document's Words, by contract: whatever text of no more than 100000 bytes.
-/
import Derived.Test.YtgkldglknkeedaaDoorCodeQ
import Derived.Test.YtgkldglknkeedaaDoorCodeI
import Derived.Laws.AppendOwn
import Derived.Laws.OwnMore
import Derived.WalkSpells
namespace Go.Proofs.YtgkldglknkeedaaDoor
open Go Go.RowKit Go.WideShapes Go.ChangeShapes
set_option linter.unusedVariables false

theorem infoTrydstr : (Tryd.prog.info? 9).map (fun i => (i.zero, i.size, i.bytes)) = some (some (.string ⟨#[]⟩), 1, 16) := by kernel_rfl

def strs (l : List (List UInt8)) : List Value := l.map fun w => Value.string (bs w)

/-- Of the text s, up to byte i, the words that are done; the next one begins at f. -/
def WordsAt (s : List UInt8) (f i : Nat) (done : List (List UInt8)) : Prop :=
  (f ≤ i ∧ i ≤ s.length ∧ done.length ≤ f ∧ splitW s = done ++ splitW (s.drop f) ∧ noBlank ((s.drop f).take (i - f))) ∨ (i = s.length + 1 ∧ splitW s = done ∧ done.length ≤ s.length + 1)

theorem WordsAt.zero (s : List UInt8) : WordsAt s 0 0 [] := .inl ⟨Nat.le_refl _, Nat.zero_le _, Nat.le_refl _, rfl, fun c hc => by simp at hc⟩

theorem drop_take_cons (s : List UInt8) (f i : Nat) (c : UInt8) (hf : f ≤ i) (hc : s[i]? = some c) : s.drop f = (s.drop f).take (i - f) ++ c :: s.drop (i + 1) := by
  have hi : i < s.length := (List.getElem?_eq_some_iff.1 hc).1
  have h1 : (s.drop f).drop (i - f) = c :: s.drop (i + 1) := by
    rw [List.drop_drop, show f + (i - f) = i by omega, List.drop_eq_getElem_cons hi]
    have : s[i] = c := (List.getElem?_eq_some_iff.1 hc).2
    rw [this]
  rw [← h1, List.take_append_drop]

theorem WordsAt.blank {s : List UInt8} {f i : Nat} {done : List (List UInt8)} (h : WordsAt s f i done) (hc : s[i]? = some 32) : WordsAt s (i + 1) (i + 1) (done ++ [(s.drop f).take (i - f)]) := by
  have hi : i < s.length := (List.getElem?_eq_some_iff.1 hc).1
  rcases h with ⟨h1, h2, h3, h4, h5⟩ | ⟨h1, _, _⟩
  · refine .inl ⟨Nat.le_refl _, by omega, by simp; omega, ?_, fun c hc => by simp at hc⟩
    have h6 := splitW_hit (s.drop (i + 1)) h5
    rw [← drop_take_cons s f i 32 h1 hc] at h6
    rw [h4, h6]
    simp
  · omega
theorem WordsAt.more {s : List UInt8} {f i : Nat} {done : List (List UInt8)} {c : UInt8} (h : WordsAt s f i done) (hc : s[i]? = some c) (hn : c ≠ 32) : WordsAt s f (i + 1) done := by
  have hi : i < s.length := (List.getElem?_eq_some_iff.1 hc).1
  rcases h with ⟨h1, h2, h3, h4, h5⟩ | ⟨h1, _, _⟩
  · refine .inl ⟨by omega, by omega, h3, h4, fun x hx => ?_⟩
    have e : (s.drop f).take (i + 1 - f) = (s.drop f).take (i - f) ++ [c] := by
      have hl : i - f < (s.drop f).length := by simp; omega
      rw [show i + 1 - f = (i - f) + 1 by omega, List.take_succ_eq_append_getElem hl]
      congr 2
      rw [List.getElem_drop]
      have : s[i]? = some s[i] := List.getElem?_eq_getElem hi
      rw [this] at hc
      injection hc with hc
      rw [← hc]
      congr 1
      omega
    rw [e] at hx
    rcases List.mem_append.1 hx with hx | hx
    · exact h5 x hx
    · have : x = c := by simpa using hx
      rw [this]
      exact hn
  · omega
theorem WordsAt.last {s : List UInt8} {f : Nat} {done : List (List UInt8)} (h : WordsAt s f s.length done) : WordsAt s (s.length + 1) (s.length + 1) (done ++ [(s.drop f).take (s.length - f)]) := by
  rcases h with ⟨h1, h2, h3, h4, h5⟩ | ⟨h1, _, _⟩
  · have e : (s.drop f).take (s.length - f) = s.drop f := List.take_of_length_le (by simp)
    rw [e] at h5 ⊢
    refine .inr ⟨rfl, by rw [h4, splitW_miss h5], by simp; omega⟩
  · omega

theorem ext_bs (s : ByteArray) (f i : Nat) : s.extract f i = bs ((s.data.toList.drop f).take (i - f)) := by
  apply ByteArray.ext
  apply Array.ext'
  rw [ByteArray.data_extract, Array.toList_extract]
  simp [bs, List.extract_eq_take_drop]

def WordsRes (w : World) (s : List UInt8) (e : Ending) (w' : World) : Prop :=
  ∃ v, e = .returned v ∧ w'.ownsRow w.heap.size 9 1 v (splitW s).length (strs (splitW s)) ∧ Below w.heap.size w w'

set_option maxRecDepth 100000 in
set_option maxHeartbeats 4000000 in
theorem rwords_any (s : ByteArray) (hs : s.size ≤ 100000) (w : World) :
    Calls Tryd.prog 31 #[.string s] w (WordsRes w s.data.toList) := by
  have hl : s.data.toList.length = s.size := by rw [Array.length_toList]; rfl
  have HL := Lib.hid hl
  have hnil : w.ownsRow w.heap.size 9 1 (.slice none 0 0) 0 [] := ⟨rfl, .inl ⟨rfl, rfl⟩⟩
  have HNIL := Lib.hid hnil
  obtain ⟨i0, hi, hz0, hz1, hz2⟩ := info_parts infoTrydstr
  have HI := Lib.hid hi
  have HZ0 := Lib.hid hz0
  have HZ1 := Lib.hid hz1
  have HZ2 := Lib.hid hz2
  clear hl hnil hi hz0 hz1 hz2
  go_enter Tryd.func31, Tryd.ntmps31
  go_wp2
  go_loopw [3, 4, 5] (fun v fv iv wr => ∃ (f k : Nat) (done : List (List UInt8)), fv = .int .i64 f ∧ iv = .int .i64 k ∧ WordsAt s.data.toList f k done ∧ wr.ownsRow w.heap.size 9 1 v done.length (strs done) ∧ Below w.heap.size w wr) (fun _ _ iv _ => s.size + 1 - (intOf iv).toNat)
  case atStart => exact ⟨0, 0, [], rfl, rfl, WordsAt.zero _, HNIL.out, Below.refl _ _⟩
  case round =>
    obtain ⟨f, k, done, rfl, rfl, hw, hown, hbl⟩ := hrel
    have HOWN := Lib.hid hown
    have HB := Lib.hid hbl
    have HW := Lib.hid hw
    have hbd : k ≤ s.size + 1 ∧ done.length ≤ s.size + 1 ∧ (k ≤ s.size → f ≤ k) := by
      have := HL.out
      rcases hw with ⟨h1, h2, h3, _⟩ | ⟨h1, _, h3⟩
      · omega
      · omega
    obtain ⟨hk1, hd1, hfk⟩ := hbd
    clear hown hbl hw
    by_cases hlt : k < s.size
    · have hfk' : f ≤ k := hfk (by omega)
      have hle : (k : Int) ≤ (s.size : Int) := by omega
      have hne : ((k : Int) == (s.size : Int)) = false := by rw [beq_eq_false_iff_ne]; omega
      have hgk : s.data.toList[k]? = some s[k] := by
        rw [List.getElem?_eq_getElem (by simpa using hlt)]; rfl
      clear hfk
      by_cases hb : s[k] = 32
      · have hbb : ((s[k].toNat : Int) == 32) = true := by rw [hb]; rfl
        have hnx := HW.out.blank (hb ▸ hgk)
        have HNX := Lib.hid hnx
        clear hb hnx hgk
        go_wp2_with (at_builtin; refine wpList_append_own _ rfl _ _ 49 rfl w.heap.size 9 i0 (.string ⟨#[]⟩) 1 16 Tryd.underlying49 HI.out HZ0.out HZ1.out HZ2.out rfl (by decide) _ _ _ rfl (own_fr (S := fun _ => False) HOWN.out ((Fr.refl _ wr).alloc _) (fun _ _ h => h)) ⟨wr.heap.size, 0, none⟩ 1 1 [.string (s.extract f k)] rfl rfl ?c1 ?c2 ?c3 ?c4 ?c5 ?_)
        case c1 => exact cell_one_new wr (.string (s.extract f k)) 9
        case c2 =>
          intro u hu
          obtain rfl : u = .string (s.extract f k) := by simpa using hu
          rfl
        case c3 => unfold maxLen; omega
        case c4 => omega
        case c5 => have := HB.out.size; simp; omega
        intro v' w5 hown5 hgrow _
        have hb5 : Below w.heap.size wr w5 := ((Below.refl _ wr).alloc HB.out.size _).trans ((Fr.of_grown (S := fun j => w.heap.size ≤ j) hgrow (fun j _ e => own_block_ge HOWN.out e)).below (B := w.heap.size) (by have := HB.out.size; simp; omega) (fun j h => h))
        have HB5 := Lib.hid (HB.out.trans hb5)
        have HOWN5 : Hid (w5.ownsRow w.heap.size 9 1 v' (done ++ [(s.data.toList.drop f).take (k - f)]).length (strs (done ++ [(s.data.toList.drop f).take (k - f)]))) := Lib.hid (by
          have h := hown5
          rw [ext_bs s f k] at h
          simpa [strs] using h)
        clear hown5 hgrow hb5
        go_wp2
        go_roundw
        case rel => exact ⟨k + 1, k + 1, _, by go_num, by go_num, HNX.out, HOWN5.out, HB5.out⟩
        case measure => simp [intOf]; omega
      · have hbb : ((s[k].toNat : Int) == 32) = false := by
          rw [beq_eq_false_iff_ne]
          intro e
          apply hb
          apply UInt8.toNat_inj.1
          show s[k].toNat = 32
          omega
        have hnx := HW.out.more hgk hb
        have HNX := Lib.hid hnx
        clear hb hnx hgk
        go_wp2
        go_roundw
        case rel => exact ⟨f, k + 1, done, rfl, by go_num, HNX.out, HOWN.out, HB.out⟩
        case measure => simp [intOf]; omega
    · by_cases hke : k = s.size
      · have hfk' : f ≤ k := hfk (by omega)
        subst hke
        have hle : (s.size : Int) ≤ (s.size : Int) := Int.le_refl _
        have hnx : WordsAt s.data.toList (s.size + 1) (s.size + 1) (done ++ [(s.data.toList.drop f).take (s.size - f)]) := by
          have h := HW.out
          rw [← HL.out] at h ⊢
          exact h.last
        have HNX := Lib.hid hnx
        clear hnx hfk hlt
        go_wp2_with (at_builtin; refine wpList_append_own _ rfl _ _ 49 rfl w.heap.size 9 i0 (.string ⟨#[]⟩) 1 16 Tryd.underlying49 HI.out HZ0.out HZ1.out HZ2.out rfl (by decide) _ _ _ rfl (own_fr (S := fun _ => False) HOWN.out ((Fr.refl _ wr).alloc _) (fun _ _ h => h)) ⟨wr.heap.size, 0, none⟩ 1 1 [.string (s.extract f s.size)] rfl rfl ?c1 ?c2 ?c3 ?c4 ?c5 ?_)
        case c1 => exact cell_one_new wr (.string (s.extract f s.size)) 9
        case c2 =>
          intro u hu
          obtain rfl : u = .string (s.extract f s.size) := by simpa using hu
          rfl
        case c3 => unfold maxLen; omega
        case c4 => omega
        case c5 => have := HB.out.size; simp; omega
        intro v' w5 hown5 hgrow _
        have hb5 : Below w.heap.size wr w5 := ((Below.refl _ wr).alloc HB.out.size _).trans ((Fr.of_grown (S := fun j => w.heap.size ≤ j) hgrow (fun j _ e => own_block_ge HOWN.out e)).below (B := w.heap.size) (by have := HB.out.size; simp; omega) (fun j h => h))
        have HB5 := Lib.hid (HB.out.trans hb5)
        have HOWN5 : Hid (w5.ownsRow w.heap.size 9 1 v' (done ++ [(s.data.toList.drop f).take (s.size - f)]).length (strs (done ++ [(s.data.toList.drop f).take (s.size - f)]))) := Lib.hid (by
          have h := hown5
          rw [ext_bs s f s.size] at h
          simpa [strs] using h)
        clear hown5 hgrow hb5
        go_wp2
        go_roundw
        case rel => exact ⟨s.size + 1, s.size + 1, _, by go_num, by go_num, HNX.out, HOWN5.out, HB5.out⟩
        case measure => simp [intOf]
      · have hgt : ¬ (k : Int) ≤ (s.size : Int) := by omega
        have hdone : splitW s.data.toList = done := by
          have := HL.out
          rcases HW.out with ⟨_, h2, _⟩ | ⟨_, h2, _⟩
          · omega
          · exact h2
        have HD := Lib.hid hdone
        clear hdone hfk hlt hke
        go_wp2
        go_ret
        exact ⟨_, rfl, by rw [HD.out]; exact HOWN.out, HB.out⟩

end Go.Proofs.YtgkldglknkeedaaDoor
