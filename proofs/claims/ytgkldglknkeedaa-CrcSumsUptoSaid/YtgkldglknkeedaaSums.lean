/-
  The statement CrcSums: in whatever world, of whatever parts: true; new memory alone. Condition: the parts that it looks at have no more than 1048576 bytes in all.
-/
import Derived.Test.YtgkldglknkeedaaTurns
namespace Go.Proofs.Ytgkldglknkeedaa
open Go Go.RowKit Go.WideShapes Go.ChangeShapes
set_option linter.unusedVariables false

def bysOf (l : List Nat) : List Value := l.map fun c => Value.int .u8 ((c : Nat) : Int)

section
variable {P : Program} (w : World)

theorem run_append_bys (base : Nat) (t ty e : TypeId) (i : TypeInfo) (ht : P.underlying t = some (.slice e)) (hi : P.info? e = some i) (hz : i.zero = some (.int .u8 0))
    (hsize : i.size = 1) (hby : i.bytes = 1)
    (v : Value) (n : Nat) (xs : List Value) (hown : w.ownsRow base e 1 v n xs)
    (u : Value) (l : List Nat) (hsrc : BysAt w u l)
    (h63 : n + l.length ≤ 1048576) (hbase : base ≤ w.heap.size) :
    ∃ v' w', (Builtin.append_ #[t, t] ty #[v, u]).run P w = .ok v' w' ∧ w'.ownsRow base e 1 v' (n + l.length) (xs ++ bysOf l) ∧ w.grownBy w' v.ownBlock := by
  have key : ∀ (ad : Addr) (c : Nat), u = .slice (some ad) l.length c → (∀ j u', (bysOf l)[j]? = some u' → w.cell? (ad.add j) = some u') →
      ∃ v' w', (Builtin.append_ #[t, t] ty #[v, u]).run P w = .ok v' w' ∧ w'.ownsRow base e 1 v' (n + l.length) (xs ++ bysOf l) ∧ w.grownBy w' v.ownBlock := by
    rintro ad c rfl hnews
    obtain ⟨v', w', hr, h2, h3, _⟩ := run_append_own (P := P) w base t ty e i (.int .u8 0) 1 1 ht hi hz hsize hby rfl (by decide) v n xs hown ad l.length c (bysOf l) (by simp [bysOf]) hnews
      (fun u hu => by obtain ⟨x, _, rfl⟩ := List.mem_map.1 hu; rfl) (by unfold maxLen; omega) (by omega) hbase
    exact ⟨v', w', hr, h2, h3⟩
  rcases hsrc with ⟨rfl, A, c, rfl⟩ | ⟨b, off, c, rfl, hc⟩
  · cases A with
    | none =>
      refine ⟨v, w, ?_, by simpa [bysOf] using hown, World.grownBy.refl w _⟩
      rcases hown.2 with ⟨rfl, rfl⟩ | ⟨g, cap, cur, rfl, _, _, hnc, _⟩
      · simp [Builtin.append_, run_underlying ht, sizeOf, typeInfo, hi, Builtin.lenOf, Builtin.firstCells]
      · simp [Builtin.append_, run_underlying ht, sizeOf, typeInfo, hi, Builtin.lenOf, Builtin.firstCells, hnc, storeCells]
    | some ad => exact key ad c rfl (fun j u' hu => by simp [bysOf] at hu)
  · refine key _ c rfl (fun j u' hu => ?_)
    unfold bysOf at hu
    rw [List.getElem?_map] at hu
    cases hq : l[j]? with
    | none => simp [hq] at hu
    | some x =>
      rw [hq] at hu
      obtain rfl : Value.int .u8 (x : Int) = u' := by simpa using hu
      have hj : j < l.length := (List.getElem?_eq_some_iff.1 hq).1
      have h1 := hc j hj
      rw [List.getD_eq_getElem?_getD, hq] at h1
      rw [add_plain]
      exact h1

theorem wp_append_bys {o : Oper} {a : Act} {K : Act → World → Prop} {Q : Exit → Act → World → Prop} (s x : Operand) (t : TypeId)
    (ho : o.op = .call { callee := .builtin .append, args := #[s, x], argTypes := #[t, t] })
    (base : Nat) (e : TypeId) (i : TypeInfo) (ht : P.underlying t = some (.slice e)) (hi : P.info? e = some i) (hz : i.zero = some (.int .u8 0))
    (hsize : i.size = 1) (hby : i.bytes = 1)
    (v : Value) (n : Nat) (xs : List Value) (hs : a.eval s = v) (hown : w.ownsRow base e 1 v n xs)
    (u : Value) (l : List Nat) (hx : a.eval x = u) (hsrc : BysAt w u l)
    (h63 : n + l.length ≤ 1048576) (hbase : base ≤ w.heap.size)
    (h : ∀ v' w', w'.ownsRow base e 1 v' (n + l.length) (xs ++ bysOf l) → w.grownBy w' v.ownBlock → K (a.put o.dst v') w') : o.wp P a w K Q := by
  obtain ⟨v', w', hr, h2, h3⟩ := run_append_bys (P := P) w base t o.type e i ht hi hz hsize hby v n xs hown u l hsrc h63 hbase
  unfold Oper.wp execOp
  simp only [ho, resolve, invoke, builtin, Sem.run_bind, Sem.run_pure, Result.andThen_ok, List.map_toArray, List.map_cons, List.map_nil, hs, hx, hr]
  exact h v' w' h2 h3

theorem wpList_append_bys {ops : Array Oper} {rest : List Oper} {o : Oper} {a : Act} {Q : Exit → Act → World → Prop} (hgd : o.guard = none) (s x : Operand) (t : TypeId)
    (ho : o.op = .call { callee := .builtin .append, args := #[s, x], argTypes := #[t, t] })
    (base : Nat) (e : TypeId) (i : TypeInfo) (ht : P.underlying t = some (.slice e)) (hi : P.info? e = some i) (hz : i.zero = some (.int .u8 0))
    (hsize : i.size = 1) (hby : i.bytes = 1)
    (v : Value) (n : Nat) (xs : List Value) (hs : a.eval s = v) (hown : w.ownsRow base e 1 v n xs)
    (u : Value) (l : List Nat) (hx : a.eval x = u) (hsrc : BysAt w u l)
    (h63 : n + l.length ≤ 1048576) (hbase : base ≤ w.heap.size)
    (h : ∀ v' w', w'.ownsRow base e 1 v' (n + l.length) (xs ++ bysOf l) → w.grownBy w' v.ownBlock → wpList P ops Q rest (a.put o.dst v') w') : wpList P ops Q (o :: rest) a w :=
  wpList_plain hgd fun _ hK => wp_append_bys w s x t ho base e i ht hi hz hsize hby v n xs hs hown u l hx hsrc h63 hbase fun v' w' h2 h3 => hK _ _ (h v' w' h2 h3)
end

theorem PartsAt.below {w w' : World} {v : Value} {ls : List (List Nat)} (h : PartsAt w v ls) (hb : Below w.heap.size w w') : PartsAt w' v ls := by
  rcases h with h | ⟨b, off, c, rfl, hc⟩
  · exact .inl h
  · refine .inr ⟨b, off, c, rfl, fun k hk => ?_⟩
    obtain ⟨u, h1, h2⟩ := hc k hk
    exact ⟨u, (hb.cell (p := ⟨b, off + k, none⟩) (World.block_lt_of_cell? w _ h1)).trans h1, h2.below hb⟩

theorem bys_of_own {w : World} {base : Nat} {v : Value} {l : List Nat} (h : w.ownsRow base 5 1 v l.length (bysOf l)) : BysAt w v l := by
  by_cases hl : 0 < l.length
  · obtain ⟨g, cap, rfl, _, hb⟩ := buf_of_own h hl
    exact hb.bys
  · have e : l = [] := List.eq_nil_of_length_eq_zero (by omega)
    subst e
    obtain ⟨A, c, rfl, _⟩ := own_form h
    exact .inl ⟨rfl, A, c, rfl⟩

theorem getD_take (ls : List (List Nat)) (k m : Nat) (h : k < m) : (ls.take m).getD k [] = ls.getD k [] := by
  rw [List.getD_eq_getElem?_getD, List.getElem?_take, if_pos h, ← List.getD_eq_getElem?_getD]
theorem flat_take_le (ls : List (List Nat)) (k : Nat) : (ls.take k).flatten.length ≤ ls.flatten.length := by
  conv => rhs; rw [← List.take_append_drop k ls, List.flatten_append, List.length_append]
  omega
theorem flat_mem_le {ls : List (List Nat)} {l : List Nat} (h : l ∈ ls) : l.length ≤ ls.flatten.length := by
  induction ls with
  | nil => simp at h
  | cons a r ih =>
    rw [List.flatten_cons, List.length_append]
    rcases List.mem_cons.1 h with rfl | h
    · omega
    · have := ih h; omega
theorem flat_snoc (ls : List (List Nat)) (k : Nat) (h : k < ls.length) : (ls.take (k + 1)).flatten = (ls.take k).flatten ++ ls.getD k [] := by
  rw [take_snoc2 ls k h, List.flatten_append]; simp
theorem own_block_ge {w : World} {base : Nat} {e : TypeId} {size n j : Nat} {v : Value} {xs : List Value} (h : w.ownsRow base e size v n xs) (he : v.ownBlock = some j) : base ≤ j := by
  rcases h.2 with ⟨rfl, _⟩ | ⟨g, cap, cur, rfl, hg, _⟩
  · simp [Value.ownBlock] at he
  · have : g = j := by simpa [Value.ownBlock] using he
    omega
theorem bysOf_append (a b : List Nat) : bysOf (a ++ b) = bysOf a ++ bysOf b := by simp [bysOf]

set_option maxHeartbeats 1000000 in
theorem sums_few (ls : List (List Nat)) (hl : ∀ l ∈ ls, ∀ c ∈ l, c < 256) (hm : ls.flatten.length ≤ 1048576) (hn : ls.length ≤ 20) (b off c : Nat) (hcap : ls.length ≤ c) (w : World)
    (hc : ∀ k, k < ls.length → ∃ u, w.cell? ⟨b, off + k, none⟩ = some u ∧ BysAt w u (ls.getD k [])) :
    Calls Try.prog 3 #[.slice (some ⟨b, off, none⟩) ls.length c] w fun e w' => e = .returned (.bool true) ∧ Below w.heap.size w w' := by
  have HC := Lib.hid hc
  have HL := Lib.hid hl
  have HM := Lib.hid hm
  obtain ⟨i0, hi, hz0, hz1, hz2⟩ := info_parts infoTryu8
  have HI := Lib.hid hi
  have HZ0 := Lib.hid hz0
  have HZ1 := Lib.hid hz1
  have HZ2 := Lib.hid hz2
  have h0 : w.ownsRow w.heap.size 5 1 (.slice none 0 0) 0 [] := ⟨rfl, .inl ⟨rfl, rfl⟩⟩
  have H0 := Lib.hid h0
  clear hc hl hm hi hz0 hz1 hz2 h0
  go_enter Try.func3, Try.ntmps3
  go_wp2
  go_loopw [3, 4, 5] (fun v s i wr => ∃ k : Nat, k ≤ ls.length ∧ i = .int .i64 k ∧ s = .int .u32 (crcOf 0 (ls.take k).flatten) ∧ wr.ownsRow w.heap.size 5 1 v (ls.take k).flatten.length (bysOf (ls.take k).flatten) ∧ Below w.heap.size w wr) (fun _ _ i _ => ls.length - (intOf i).toNat)
  case atStart => exact ⟨0, by omega, rfl, ret_val (crcOf_nil 0).symm, H0.out, Below.refl _ w⟩
  case round =>
    obtain ⟨k, hk, rfl, rfl, hown, hbel⟩ := hrel
    have hx : crcOf 0 (ls.take k).flatten < 4294967296 := crcOf_lt (by omega) (flat_lt fun l h => HL.out l (List.mem_of_mem_take h))
    by_cases hlt : k < ls.length
    · have hkl : k < ls.length := by omega
      obtain ⟨u, hcell, hu⟩ := HC.out k hkl
      have hub := hu.below hbel
      replace hcell := (hbel.cell (p := ⟨b, off + k, none⟩) (World.block_lt_of_cell? w _ hcell)).trans hcell
      have hfl := flat_snoc ls k hkl
      have hle := flat_take_le ls (k + 1)
      have hM := HM.out
      have hlb := HL.out _ (getD_mem hkl)
      rw [hfl, List.length_append] at hle
      have hts : crcOf 0 (ls.take (k + 1)).flatten = crcOf (crcOf 0 (ls.take k).flatten) (ls.getD k []) := by rw [hfl, crcOf_append]
      generalize ls.getD k [] = l at hu hub hfl hle hts hlb
      have HFL := Lib.hid hfl
      have HTS := Lib.hid hts
      have HU := Lib.hid hub
      have HW := Lib.hid hu
      have HO := Lib.hid hown
      have HB := Lib.hid hbel
      have HLB := Lib.hid hlb
      generalize hF : (ls.take k).flatten = F at HFL HTS HO hle hx
      clear hfl hts hu hub hown hbel hlb hF
      generalize crcOf 0 F = x at HTS hx
      go_wp2_with (at_builtin; refine wpList_append_bys _ rfl _ _ 23 rfl w.heap.size 5 i0 Try.underlying23 HI.out HZ0.out HZ1.out HZ2.out _ _ _ rfl HO.out u l rfl HU.out ?c1 ?c2 ?_)
      case c1 => omega
      case c2 => exact HB.out.size
      intro v' w1 hown1 hgrow
      have hF1 : Fr (fun j => w.heap.size ≤ j) wr w1 := Fr.of_grown hgrow (fun j _ e => own_block_ge HO.out e)
      have hB1 : Below w.heap.size wr w1 := hF1.below HB.out.size (fun j h => h)
      have hbw : b < w.heap.size := World.block_lt_of_cell? w _ (HC.out k hkl).choose_spec.1
      have hcell1 : w1.cell? ⟨b, off + k, none⟩ = some u := (hB1.cell (p := ⟨b, off + k, none⟩) hbw).trans hcell
      have HU1 := Lib.hid (HW.out.below (HB.out.trans hB1))
      have HO1 := Lib.hid hown1
      have HB1 := Lib.hid (HB.out.trans hB1)
      have hg := go_any x hx l HLB.out (by omega) u w1 HU1.out
      obtain ⟨y, hy⟩ : ∃ y, crcOf x l = y := ⟨_, rfl⟩
      rw [hy] at hg
      have HY := Lib.hid hy
      have HG := Lib.hid hg
      clear hy hg hown1 hgrow hF1 hB1 hcell
      go_wp2_with ((with_reducible refine HG.out.mono ?_); rintro e w' ⟨rfl, rfl⟩)
      go_roundw
      case rel => exact ⟨k + 1, by omega, by go_num, ret_val (by rw [HTS.out, HY.out]), by rw [HFL.out, List.length_append, bysOf_append]; exact HO1.out, HB1.out⟩
      case measure => simp [intOf]; omega
    · obtain rfl : k = ls.length := by omega
      have hpa : PartsAt wr (.slice (some ⟨b, off, none⟩) ls.length c) (ls.take ls.length) := by
        refine .inr ⟨b, off, c, by rw [List.length_take]; congr 1; omega, fun k hk => ?_⟩
        rw [List.length_take] at hk
        obtain ⟨u, h1, h2⟩ := HC.out k (by omega)
        rw [getD_take ls k _ (by omega)]
        exact ⟨u, (hbel.cell (p := ⟨b, off + k, none⟩) (World.block_lt_of_cell? w _ h1)).trans h1, h2.below hbel⟩
      have hlb : ∀ l ∈ ls.take ls.length, (∀ c ∈ l, c < 256) ∧ l.length ≤ 9223372036854775807 := fun l h => ⟨HL.out l (List.mem_of_mem_take h), by
        have h1 := flat_mem_le (List.mem_of_mem_take h)
        have := HM.out
        omega⟩
      have hfl := flat_take_le ls ls.length
      have hlen : (ls.take ls.length).length ≤ 9223372036854775807 := by rw [List.length_take]; omega
      have hfb : ∀ c ∈ (ls.take ls.length).flatten, c < 256 := flat_lt fun l h => (hlb l h).1
      have hM := HM.out
      have hby := bys_of_own hown
      generalize ls.take ls.length = LS at hx hown hpa hlb hfl hlen hfb hby
      have hsum := fun v w (hp : PartsAt w v LS) => sum_any LS hlb hlen v w hp
      generalize LS.flatten = F at hown hfl hfb hby hsum hx ⊢
      have HSUM := Lib.hid hsum
      have HPA := Lib.hid hpa
      have HLB := Lib.hid hlb
      have HLN := Lib.hid hlen
      have HFB := Lib.hid hfb
      have HBY := Lib.hid hby
      have HB := Lib.hid hbel
      have HFL : Hid (F.length ≤ 1048576) := Lib.hid (by omega)
      obtain ⟨A, cp, rfl, _⟩ := own_form hown
      clear hsum hpa hlb hlen hfb hby hbel hown hfl hM hx HC HL HM H0 HI HZ0 HZ1 HZ2
      go_wp2_with fail
      refine (ctold_any _).mono ?_
      rintro e w2 ⟨rfl, hb2⟩
      have HPA2 := Lib.hid (HPA.out.below hb2)
      have HBY2 := Lib.hid (HBY.out.below hb2)
      have HB2 := Lib.hid (HB.out.trans (hb2.mono HB.out.size))
      clear hb2
      have hs := HSUM.out _ _ HPA2.out
      have hr := rsum_any F HFB.out (by have := HFL.out; omega) _ _ HBY2.out
      obtain ⟨n, hn9⟩ : ∃ n, crcOf 0 F = n := ⟨_, rfl⟩
      rw [hn9] at hs hr ⊢
      have HS := Lib.hid hs
      have HR := Lib.hid hr
      have HN9 := Lib.hid hn9
      clear hs hr hn9
      go_wp2_with fail
      refine HS.out.mono ?_
      rintro e w' ⟨rfl, rfl⟩
      go_wp2_with fail
      refine HR.out.mono ?_
      rintro e w' ⟨rfl, rfl⟩
      go_wp2_with fail
      refine HR.out.mono ?_
      rintro e w' ⟨rfl, rfl⟩
      go_wp2_with fail
      go_ret
      exact ⟨by simp, HB2.out⟩

set_option maxHeartbeats 1000000 in
theorem sums_many (ls : List (List Nat)) (hl : ∀ l ∈ ls, ∀ c ∈ l, c < 256) (hm : ls.flatten.length ≤ 1048576) (hn : 20 < ls.length) (b off c : Nat) (hcap : ls.length ≤ c) (w : World)
    (hc : ∀ k, k < ls.length → ∃ u, w.cell? ⟨b, off + k, none⟩ = some u ∧ BysAt w u (ls.getD k [])) :
    Calls Try.prog 3 #[.slice (some ⟨b, off, none⟩) ls.length c] w fun e w' => e = .returned (.bool true) ∧ Below w.heap.size w w' := by
  have HC := Lib.hid hc
  have HL := Lib.hid hl
  have HM := Lib.hid hm
  obtain ⟨i0, hi, hz0, hz1, hz2⟩ := info_parts infoTryu8
  have HI := Lib.hid hi
  have HZ0 := Lib.hid hz0
  have HZ1 := Lib.hid hz1
  have HZ2 := Lib.hid hz2
  have h0 : w.ownsRow w.heap.size 5 1 (.slice none 0 0) 0 [] := ⟨rfl, .inl ⟨rfl, rfl⟩⟩
  have H0 := Lib.hid h0
  clear hc hl hm hi hz0 hz1 hz2 h0
  go_enter Try.func3, Try.ntmps3
  go_wp2
  go_loopw [3, 4, 5] (fun v s i wr => ∃ k : Nat, k ≤ 20 ∧ i = .int .i64 k ∧ s = .int .u32 (crcOf 0 (ls.take k).flatten) ∧ wr.ownsRow w.heap.size 5 1 v (ls.take k).flatten.length (bysOf (ls.take k).flatten) ∧ Below w.heap.size w wr) (fun _ _ i _ => 20 - (intOf i).toNat)
  case atStart => exact ⟨0, by omega, rfl, ret_val (crcOf_nil 0).symm, H0.out, Below.refl _ w⟩
  case round =>
    obtain ⟨k, hk, rfl, rfl, hown, hbel⟩ := hrel
    have hx : crcOf 0 (ls.take k).flatten < 4294967296 := crcOf_lt (by omega) (flat_lt fun l h => HL.out l (List.mem_of_mem_take h))
    by_cases hlt : k < 20
    · have hkl : k < ls.length := by omega
      obtain ⟨u, hcell, hu⟩ := HC.out k hkl
      have hub := hu.below hbel
      replace hcell := (hbel.cell (p := ⟨b, off + k, none⟩) (World.block_lt_of_cell? w _ hcell)).trans hcell
      have hfl := flat_snoc ls k hkl
      have hle := flat_take_le ls (k + 1)
      have hM := HM.out
      have hlb := HL.out _ (getD_mem hkl)
      rw [hfl, List.length_append] at hle
      have hts : crcOf 0 (ls.take (k + 1)).flatten = crcOf (crcOf 0 (ls.take k).flatten) (ls.getD k []) := by rw [hfl, crcOf_append]
      generalize ls.getD k [] = l at hu hub hfl hle hts hlb
      have HFL := Lib.hid hfl
      have HTS := Lib.hid hts
      have HU := Lib.hid hub
      have HW := Lib.hid hu
      have HO := Lib.hid hown
      have HB := Lib.hid hbel
      have HLB := Lib.hid hlb
      generalize hF : (ls.take k).flatten = F at HFL HTS HO hle hx
      clear hfl hts hu hub hown hbel hlb hF
      generalize crcOf 0 F = x at HTS hx
      go_wp2_with (at_builtin; refine wpList_append_bys _ rfl _ _ 23 rfl w.heap.size 5 i0 Try.underlying23 HI.out HZ0.out HZ1.out HZ2.out _ _ _ rfl HO.out u l rfl HU.out ?c1 ?c2 ?_)
      case c1 => omega
      case c2 => exact HB.out.size
      intro v' w1 hown1 hgrow
      have hF1 : Fr (fun j => w.heap.size ≤ j) wr w1 := Fr.of_grown hgrow (fun j _ e => own_block_ge HO.out e)
      have hB1 : Below w.heap.size wr w1 := hF1.below HB.out.size (fun j h => h)
      have hbw : b < w.heap.size := World.block_lt_of_cell? w _ (HC.out k hkl).choose_spec.1
      have hcell1 : w1.cell? ⟨b, off + k, none⟩ = some u := (hB1.cell (p := ⟨b, off + k, none⟩) hbw).trans hcell
      have HU1 := Lib.hid (HW.out.below (HB.out.trans hB1))
      have HO1 := Lib.hid hown1
      have HB1 := Lib.hid (HB.out.trans hB1)
      have hg := go_any x hx l HLB.out (by omega) u w1 HU1.out
      obtain ⟨y, hy⟩ : ∃ y, crcOf x l = y := ⟨_, rfl⟩
      rw [hy] at hg
      have HY := Lib.hid hy
      have HG := Lib.hid hg
      clear hy hg hown1 hgrow hF1 hB1 hcell
      go_wp2_with ((with_reducible refine HG.out.mono ?_); rintro e w' ⟨rfl, rfl⟩)
      go_roundw
      case rel => exact ⟨k + 1, by omega, by go_num, ret_val (by rw [HTS.out, HY.out]), by rw [HFL.out, List.length_append, bysOf_append]; exact HO1.out, HB1.out⟩
      case measure => simp [intOf]; omega
    · obtain rfl : k = 20 := by omega
      have hpa : PartsAt wr (.slice (some ⟨b, off, none⟩) 20 c) (ls.take 20) := by
        refine .inr ⟨b, off, c, by rw [List.length_take]; congr 1; omega, fun k hk => ?_⟩
        rw [List.length_take] at hk
        obtain ⟨u, h1, h2⟩ := HC.out k (by omega)
        rw [getD_take ls k _ (by omega)]
        exact ⟨u, (hbel.cell (p := ⟨b, off + k, none⟩) (World.block_lt_of_cell? w _ h1)).trans h1, h2.below hbel⟩
      have hlb : ∀ l ∈ ls.take 20, (∀ c ∈ l, c < 256) ∧ l.length ≤ 9223372036854775807 := fun l h => ⟨HL.out l (List.mem_of_mem_take h), by
        have h1 := flat_mem_le (List.mem_of_mem_take h)
        have := HM.out
        omega⟩
      have hfl := flat_take_le ls 20
      have hlen : (ls.take 20).length ≤ 9223372036854775807 := by rw [List.length_take]; omega
      have hfb : ∀ c ∈ (ls.take 20).flatten, c < 256 := flat_lt fun l h => (hlb l h).1
      have hM := HM.out
      have hby := bys_of_own hown
      generalize ls.take 20 = LS at hx hown hpa hlb hfl hlen hfb hby
      have hsum := fun v w (hp : PartsAt w v LS) => sum_any LS hlb hlen v w hp
      generalize LS.flatten = F at hown hfl hfb hby hsum hx ⊢
      have HSUM := Lib.hid hsum
      have HPA := Lib.hid hpa
      have HLB := Lib.hid hlb
      have HLN := Lib.hid hlen
      have HFB := Lib.hid hfb
      have HBY := Lib.hid hby
      have HB := Lib.hid hbel
      have HFL : Hid (F.length ≤ 1048576) := Lib.hid (by omega)
      obtain ⟨A, cp, rfl, _⟩ := own_form hown
      clear hsum hpa hlb hlen hfb hby hbel hown hfl hM hx HC HL HM H0 HI HZ0 HZ1 HZ2
      go_wp2_with fail
      refine (ctold_any _).mono ?_
      rintro e w2 ⟨rfl, hb2⟩
      have HPA2 := Lib.hid (HPA.out.below hb2)
      have HBY2 := Lib.hid (HBY.out.below hb2)
      have HB2 := Lib.hid (HB.out.trans (hb2.mono HB.out.size))
      clear hb2
      have hs := HSUM.out _ _ HPA2.out
      have hr := rsum_any F HFB.out (by have := HFL.out; omega) _ _ HBY2.out
      obtain ⟨n, hn9⟩ : ∃ n, crcOf 0 F = n := ⟨_, rfl⟩
      rw [hn9] at hs hr ⊢
      have HS := Lib.hid hs
      have HR := Lib.hid hr
      have HN9 := Lib.hid hn9
      clear hs hr hn9
      go_wp2_with fail
      refine HS.out.mono ?_
      rintro e w' ⟨rfl, rfl⟩
      go_wp2_with fail
      refine HR.out.mono ?_
      rintro e w' ⟨rfl, rfl⟩
      go_wp2_with fail
      refine HR.out.mono ?_
      rintro e w' ⟨rfl, rfl⟩
      go_wp2_with fail
      go_ret
      exact ⟨by simp, HB2.out⟩

end Go.Proofs.Ytgkldglknkeedaa
