/-
  The program's appendInstr: an instruction's bytes laid behind a row of the call's own. Condition: the instruction is right.
-/
import Derived.Test.YtfknoecgcoapcaaDoorObjG
namespace Go.Proofs.YtfknoecgcoapcaaDoor
open Go Go.RowKit Go.WideShapes Go.ChangeShapes
set_option linter.unusedVariables false
set_option linter.unusedSimpArgs false

theorem Grows.of_alloc {w w' : World} {base : Nat} {v v' : Value} {l : List Nat} {o : Obj} (h : Grows (w.alloc o) w' base v v' l) : Grows w w' base v v' l :=
  ⟨h.own, ((Fr.refl _ w).alloc o).trans h.fr, h.at_.imp id fun ⟨g, h1, h2⟩ => ⟨g, h1, by simp at h2; omega⟩⟩
theorem Grows.of_drewN {w w' : World} {base n : Nat} {v v' : Value} {l : List Nat} (h : Grows (w.drewN n) w' base v v' l) : Grows w w' base v v' l :=
  ⟨h.own, h.fr.from_drewN, h.at_⟩
theorem Grows.of_below {w w1 w' : World} {base : Nat} {v v' : Value} {l : List Nat} (hb : Below w.heap.size w w1) (h : Grows w1 w' base v v' l) : Grows w w' base v v' l :=
  ⟨h.own, (Fr.of_below hb).trans h.fr, h.at_.imp id fun ⟨g, h1, h2⟩ => ⟨g, h1, Nat.le_trans hb.size h2⟩⟩
theorem Grows.below_ {w w1 w' : World} {base : Nat} {v v' : Value} {l : List Nat} (h : Grows w w1 base v v' l) (hb : Below w1.heap.size w1 w') : Grows w w' base v v' l :=
  ⟨h.own.below hb, ⟨hb.os.trans h.fr.os, hb.tape.trans h.fr.tape, hb.output.trans h.fr.output, Nat.le_trans h.fr.size hb.size, fun i hi hs => (hb.block i (Nat.lt_of_lt_of_le hi h.fr.size)).trans (h.fr.block i hi hs)⟩, h.at_⟩
theorem Grows.box {w w' : World} {base : Nat} {v v' : Value} {l : List Nat} (h : Grows w w' base v v' l) {g : Nat} {t : TypeId} {cs : Array Value} (hb : Box w g t cs) (hn : v.ownBlock ≠ some g) : Box w' g t cs ∧ v'.ownBlock ≠ some g := by
  refine ⟨hb.fr h.fr hn, ?_⟩
  rcases h.at_ with e | ⟨g', e, hg⟩
  · rw [e]; exact hn
  · rw [e]
    intro x
    injection x with x
    have := hb.lt
    omega

theorem argsL_step (ks l : List Int) (k : Nat) (h : k < ks.length) : argsL (ks.drop k) (l.drop k) = numL (sizeK (ks.getD k 0)) (l.getD k 0).toNat ++ argsL (ks.drop (k + 1)) (l.drop (k + 1)) := by
  rw [List.drop_eq_getElem_cons h, argsL, List.tail_drop]
  congr 2
  · rw [List.getD_eq_getElem?_getD, List.getElem?_eq_getElem h]; rfl
  · congr 1
    rw [List.getD_eq_getElem?_getD, List.headD_eq_head?_getD, List.head?_drop]
theorem sizeK_le (k : Int) : sizeK k ≤ 2 := by unfold sizeK; split <;> omega
theorem argsL_len : ∀ ks l : List Int, (argsL ks l).length ≤ 2 * ks.length
  | [], _ => by simp [argsL]
  | k :: ks, l => by
    have h1 := argsL_len ks l.tail
    have h2 := sizeK_le k
    rw [argsL, List.length_append, numL_len, List.length_cons]
    omega
theorem insL_len (i : Ins) : (insL i).length ≤ 9 := by
  have h := argsL_len (opsOf i.1) (argOf i)
  have h2 := ops_few i.1
  rw [insL, List.length_append, numL_len]
  omega
theorem right_nat {i : Ins} (h : rightB i.1 (argOf i) = true) (k : Nat) (hk : k < 4) : 0 ≤ (argOf i).getD k 0 ∧ (argOf i).getD k 0 ≤ 65535 := may_bd (right_at h k hk)

/-- The instruction's own box. -/
def InsBox (w : World) (g : Nat) (i : Ins) : Prop := Box w g 69 #[.int .i64 i.1, .int .i64 i.2.1, .int .i64 i.2.2.1, .int .i64 i.2.2.2.1, .int .i64 i.2.2.2.2]
theorem InsBox.arg {w : World} {g : Nat} {i : Ins} (h : InsBox w g i) (k : Nat) (hk : k < 4) : w.cell? ⟨g, 1 + k, none⟩ = some (.int .i64 ((argOf i).getD k 0)) := by
  rw [Box.cell h (1 + k)]
  match k, hk with
  | 0, _ => rfl
  | 1, _ => rfl
  | 2, _ => rfl
  | 3, _ => rfl

set_option maxRecDepth 100000 in
set_option maxHeartbeats 8000000 in
theorem appInstr_any (i : Ins) (hr : rightB i.1 (argOf i) = true) {base : Nat} {l : List Nat} (hl : l.length ≤ 700000) (v : Value) (w : World) (hv : Row w base v l) (hb : base ≤ w.heap.size) :
    Calls Tryd.prog 25 #[v, .agg #[.int .i64 i.1, .int .i64 i.2.1, .int .i64 i.2.2.1, .int .i64 i.2.2.2.1, .int .i64 i.2.2.2.2]] w
      fun e w' => ∃ v', e = .returned v' ∧ Grows w w' base v v' (l ++ insL i) := by
  obtain ⟨m, hm⟩ := Int.eq_ofNat_of_zero_le (right_range hr).1
  have hm26 : m ≤ 26 := by have := (right_range hr).2; omega
  have HIB : Hid (InsBox (w.alloc (.cells #[.int .i64 i.1, .int .i64 i.2.1, .int .i64 i.2.2.1, .int .i64 i.2.2.2.1, .int .i64 i.2.2.2.2] 69)) w.heap.size i) := Lib.hid (Box.new w _ _)
  have hn1 := appNum_any 1 m (by omega) (by omega) (by omega) v (w.alloc (.cells #[.int .i64 i.1, .int .i64 i.2.1, .int .i64 i.2.2.1, .int .i64 i.2.2.2.1, .int .i64 i.2.2.2.2] 69)) (hv.alloc _) (by simp; omega)
  rw [show (m : Int) = i.1 from hm.symm] at hn1
  have HN1 := Lib.hid hn1
  have HNE : Hid (v.ownBlock ≠ some w.heap.size) := Lib.hid (fun e => by have := (hv.ge e).2; omega)
  have HINS : Hid (insL i = numL 1 m ++ argsL (opsOf i.1) (argOf i)) := Lib.hid (by rw [insL, hm]; rfl)
  have HLEN := Lib.hid (insL_len i)
  have HARG := Lib.hid (fun k hk => right_nat hr k hk)
  have HSTEP := Lib.hid (fun k h => argsL_step (opsOf i.1) (argOf i) k h)
  have HBASE := Lib.hid hb
  have HOPN := Lib.hid (fun (h : opsOf i.1 = []) w => operands_none i.1 h w)
  have HOPS := Lib.hid (fun n hn h0 w => operands_some i.1 n hn h0 w)
  have HFEW := Lib.hid (ops_few i.1)
  have HL := Lib.hid hl
  clear hn1 hv hb hm hr hl
  generalize insL i = li at HINS HLEN
  by_cases ho : opsOf i.1 = []
  · have HO := Lib.hid (HOPN.out ho)
    have HI2 : Hid (li = numL 1 m) := Lib.hid (by rw [HINS.out, ho, argsL, List.append_nil])
    clear ho
    go_enter Tryd.func25, Tryd.ntmps25
    go_wp2_with (first
      | (go_at_call 23; refine HN1.out.mono ?_; rintro e w5 ⟨v5, rfl, hg5, _⟩; have HG5 := Lib.hid hg5; have c0 := (HG5.out.box HIB.out HNE.out).1.cell 0; clear hg5)
      | (go_at_call 54; refine (HO.out _).mono ?_; rintro e w6 ⟨rfl, rfl⟩))
    go_loopw [0, 15] (fun s iv wr => iv = .int .i64 0 ∧ s = v5 ∧ wr = w5) (fun _ _ _ => 0)
    case atStart => exact ⟨rfl, rfl, rfl⟩
    case round =>
      obtain ⟨rfl, rfl, rfl⟩ := hrel
      go_wp2
      go_ret
      exact ⟨_, rfl, by rw [HI2.out]; exact HG5.out.of_alloc⟩
  · obtain ⟨n, hn⟩ : ∃ n, (opsOf i.1).length = n := ⟨_, rfl⟩
    have hn0 : 0 < n := by rw [← hn]; exact List.length_pos_iff.2 ho
    have HO := Lib.hid (HOPS.out n hn hn0)
    have hn4 : n ≤ 4 := by rw [← hn]; exact HFEW.out
    have HN := Lib.hid hn
    clear ho hn hn0
    go_enter Tryd.func25, Tryd.ntmps25
    go_wp2_with (first
      | (go_at_call 23; refine HN1.out.mono ?_; rintro e w5 ⟨v5, rfl, hg5, _⟩; have HG5 := Lib.hid hg5; have HB5 := Lib.hid (HG5.out.box HIB.out HNE.out); have c0 := HB5.out.1.cell 0; clear hg5)
      | (go_at_call 54; refine (HO.out _).mono ?_; rintro e w6 ⟨rfl, hw6⟩))
    have HIB6 : Hid (InsBox w6 w.heap.size i) := Lib.hid (by rw [← hw6]; exact HB5.out.1.alloc _)
    have HKB6 : Hid (Box w6 w5.heap.size 3 ((opsOf i.1).map (Value.int .i64)).toArray) := Lib.hid (by rw [← hw6]; exact Box.new _ _ _)
    have HNK : Hid (v5.ownBlock ≠ some w5.heap.size) := Lib.hid (fun e => by have := (HG5.out.own.ge e).2; omega)
    have HR6 : Hid (Row w6 base v5 (l ++ numL 1 m)) := Lib.hid (by rw [← hw6]; exact HG5.out.own.alloc _)
    have HG6 : Hid (Grows w w6 base v v5 (l ++ numL 1 m)) := Lib.hid (by rw [← hw6]; exact HG5.out.of_alloc.below_ (alloc_below w5 _))
    have HS6 : Hid (base ≤ w6.heap.size) := Lib.hid (Nat.le_trans HBASE.out HG6.out.fr.size)
    obtain ⟨gk, hgk⟩ : ∃ gk, w5.heap.size = gk := ⟨_, rfl⟩
    rw [hgk] at HKB6 HNK ⊢
    have HNE5 := Lib.hid HB5.out.2
    obtain ⟨g, hg⟩ : ∃ g, w.heap.size = g := ⟨_, rfl⟩
    rw [hg] at HIB6 HNE5 ⊢
    clear hw6 c0 hgk hg HG5 HB5 HIB HNE HN1
    go_loopw [0, 15] (fun s iv wr => ∃ (k : Nat) (vs : Value) (pre : List Nat), k ≤ n ∧ iv = .int .i64 k ∧ vs = s ∧ Hid (Grows w6 wr base v5 vs pre) ∧ Hid (pre ++ argsL ((opsOf i.1).drop k) ((argOf i).drop k) = l ++ li)) (fun _ iv _ => n - (intOf iv).toNat)
    case atStart => exact ⟨0, _, _, by omega, rfl, rfl, Lib.hid (Grows.refl HR6.out), Lib.hid (by rw [HINS.out, List.append_assoc]; rfl)⟩
    case round =>
      obtain ⟨k, vs, pre, hk, rfl, rfl, HG, HP⟩ := hrel
      by_cases hlt : k < n
      · have hkc := (HG.out.box HKB6.out HNK.out).1.cell k
        rw [show ((opsOf i.1).map (Value.int .i64)).toArray[k]? = some (.int .i64 ((opsOf i.1).getD k 0)) by
          have := HN.out
          simp [List.getD_eq_getElem?_getD, show k < (opsOf i.1).length by omega]] at hkc
        have hib := HG.out.box HIB6.out HNE5.out
        have hac := InsBox.arg hib.1 k (by omega)
        obtain ⟨x, hx⟩ := Int.eq_ofNat_of_zero_le (HARG.out k (by omega)).1
        have hx2 : x ≤ 65535 := by have := (HARG.out k (by omega)).2; omega
        have hst := HSTEP.out k (by rw [HN.out]; exact hlt)
        rw [hx] at hac hst
        have HP2 : Hid ((pre ++ numL (sizeK ((opsOf i.1).getD k 0)) x) ++ argsL ((opsOf i.1).drop (k + 1)) ((argOf i).drop (k + 1)) = l ++ li) := Lib.hid (by rw [← HP.out, hst, List.append_assoc]; rfl)
        have hpl : pre.length ≤ 800000 := by
          have h := congrArg List.length HP.out
          have h2 := HLEN.out
          have h3 := HL.out
          simp only [List.length_append] at h
          omega
        have HBX := Lib.hid hib
        have HSZ := Lib.hid (fun w => osize_any ((opsOf i.1).getD k 0) w)
        have HNUM := Lib.hid (appNum_any (sizeK ((opsOf i.1).getD k 0)) x (by have := sizeK_le ((opsOf i.1).getD k 0); omega) (by omega) (l := pre) (by omega) vs (wr.drewN 1) HG.out.own (Nat.le_trans HS6.out HG.out.fr.size))
        generalize (opsOf i.1).getD k 0 = y at hkc HP2 HSZ HNUM
        clear hx hst hib
        have d1 : decide ((k : Int) < (4 : Int)) = true := by rw [decide_eq_true_eq]; omega
        have d2 : (k : Int) < 4 := by omega
        have d3 : k < 4 := by omega
        have d4 : decide (k < 4) = true := by rw [decide_eq_true_eq]; omega
        have d5 : (0 : Int) ≤ (k : Int) := by omega
        go_upto_region 5 with (fail)
        have hS := hac
        clear hac
        go_region_held3 (fun w' => w'.cell? ⟨g, 1 + k, none⟩ = some (.int .i64 x))
          (first | exact hS8 | exact hS)
          (first
            | (go_at_call 55; refine (HSZ.out _).mono ?_; rintro e w7 ⟨rfl, rfl⟩)
            | (go_at_call 23; refine HNUM.out.mono ?_; rintro e w8 ⟨v8, rfl, hg8, _⟩; have HG8 := Lib.hid hg8; have hS8 := (((HG8.out.of_drewN).box HBX.out.1 HBX.out.2).1.cell (1 + k)).trans ((HBX.out.1.cell (1 + k)).symm.trans hS); clear hg8))
        go_wp2
        go_roundw
        case rel => exact ⟨k + 1, _, _, by omega, by go_num, rfl, Lib.hid (HG.out.trans HG8.out.of_drewN), HP2⟩
        case measure => simp [intOf]; omega
      · obtain rfl : k = n := by omega
        have HF : Hid (Grows w6 wr base v5 vs (l ++ li)) := Lib.hid (by
          have h := HP.out
          rw [List.drop_of_length_le (by rw [HN.out]; omega), argsL, List.append_nil] at h
          rw [← h]
          exact HG.out)
        go_wp2
        go_ret
        exact ⟨_, rfl, HG6.out.trans HF.out⟩

end Go.Proofs.YtfknoecgcoapcaaDoor
