/-
  The reader's args, by a contract over the reader's term.
-/
import Derived.Test.YtkfmagbaklikmaaDoorParseD
import Derived.Test.YtkfmagbaklikmaaDoorTermB
namespace Go.Proofs.YtkfmagbaklikmaaDoor
open Go Go.RowKit
set_option linter.unusedVariables false
set_option linter.unusedSimpArgs false

section
variable {P : Program} (w : World)
/-- An append onto an owned row, at a list of operations; where the new row lies. -/
theorem wpList_own_at {ops : Array Oper} {rest : List Oper} {o : Oper} {a : Act} {Q : Exit → Act → World → Prop} (hgd : o.guard = none) (s x : Operand) (t : TypeId)
    (ho : o.op = .call { callee := .builtin .append, args := #[s, x], argTypes := #[t, t] })
    (base : Nat) (e : TypeId) (i : TypeInfo) (z : Value) (size bytes : Nat) (ht : P.underlying t = some (.slice e)) (hi : P.info? e = some i) (hz : i.zero = some z)
    (hsize : i.size = size) (hby : i.bytes = bytes) (hzs : z.cells.size = size) (hsz : 0 < size)
    (v : Value) (n : Nat) (xs : List Value) (hs : a.eval s = v) (hown : w.ownsRow base e size v n xs)
    (ad : Addr) (m c : Nat) (news : List Value) (hx : a.eval x = .slice (some ad) m c) (hl : news.length = m * size) (hnews : ∀ j u, news[j]? = some u → w.cell? (ad.add j) = some u) (h1 : ∀ u ∈ news, u.oneCell' = true)
    (h63 : n + m ≤ maxLen) (hbytes : (n + m) * bytes ≤ 140737488355328) (hbase : base ≤ w.heap.size)
    (h : ∀ v' w', w'.ownsRow base e size v' (n + m) (xs ++ news) → w.grownBy w' v.ownBlock → (v'.ownBlock = v.ownBlock ∨ v'.ownBlock = some w.heap.size) → wpList P ops Q rest (a.put o.dst v') w') :
    wpList P ops Q (o :: rest) a w :=
  wpList_plain hgd fun K hK => by
    obtain ⟨v', w', hr, h2, h3, _, h5⟩ := run_append_own_at (P := P) w base t o.type e i z size bytes ht hi hz hsize hby hzs hsz v n xs hown ad m c news hl hnews h1 h63 hbytes hbase
    unfold Oper.wp execOp
    simp only [ho, resolve, invoke, builtin, Sem.run_bind, Sem.run_pure, Result.andThen_ok, List.map_toArray, List.map_cons, List.map_nil, hs, hx, hr]
    exact hK _ _ (h v' w' h2 h3 h5)
end

theorem Done.app {w w' : World} {S S' : Nat → Prop} {f : Nat} {ts : List Tm} {t : Tm} {xs : List Value} {x0 x1 x2 x3 : Value} (h : Done w S f ts ts.length xs) (hx : xs.length = ts.length * 4)
    (hS : ∀ b, S b → S' b) (hc : ∀ p : Addr, S p.block → w'.cell? p = w.cell? p) (hr : Reads w' S' f t (.agg #[x0, x1, x2, x3])) : Done w' S' f (ts ++ [t]) (ts ++ [t]).length (xs ++ [x0, x1, x2, x3]) := by
  intro i hi hij
  by_cases e : i = ts.length
  · subst e
    refine ⟨x0, x1, x2, x3, ?_, ?_, ?_, ?_, by simpa using hr⟩ <;> (rw [List.getElem?_append_right (by omega)]; simp [hx])
  · have hi' : i < ts.length := by simp at hi; omega
    obtain ⟨y0, y1, y2, y3, a0, a1, a2, a3, hr'⟩ := h i hi' hi'
    refine ⟨y0, y1, y2, y3, ?_, ?_, ?_, ?_, by rw [List.getElem_append_left hi']; exact hr'.mono hS hc⟩ <;> (rw [List.getElem?_append_left (by omega)]; assumption)

/-- What stands in a round of args: the parts so far, in a row of the call's own. -/
structure Ar8 (B : Nat) (w wk : World) (g : Nat) (s : ByteArray) (F j : Nat) (ts : List Tm) (vs : Value) (xs : List Value) : Prop where
  rd : Rd wk g s j
  fr : Fr (fun k => k = g) w wk
  laid : Laid B wk
  old : g < w.heap.size
  top : B ≤ g
  row : wk.ownsRow w.heap.size 28 4 vs ts.length xs
  done : Done wk (fun b => w.heap.size ≤ b ∧ b < wk.heap.size ∧ vs.ownBlock ≠ some b) F ts ts.length xs
section
variable {B : Nat} {w wk wl : World} {g : Nat} {s : ByteArray} {F j j' : Nat} {ts : List Tm} {vs : Value} {xs : List Value}
theorem Ar8.start (h : Rd w g s j) (hL : Laid B w) (hg : B ≤ g) : Ar8 B w w g s F j [] (.slice none 0 0) [] :=
  ⟨h, Fr.refl _ _, hL, h.lt, hg, World.ownsRow_nil _ _ _ _, fun i hi => by simp at hi⟩
theorem Ar8.go (h : Ar8 B w wk g s F j ts vs xs) (hf : Fr (fun k => k = g) wk wl) (hr : Rd wl g s j') : Ar8 B w wl g s F j' ts vs xs :=
  ⟨hr, h.fr.trans hf, h.laid.fr hf (fun k e => by have := h.top; omega), h.old, h.top, own_fr h.row hf (fun k e x => by have := (h.row.lt k e).1; have := h.old; omega),
    fun i hi hij => by
      obtain ⟨y0, y1, y2, y3, a0, a1, a2, a3, hr'⟩ := h.done i hi hij
      exact ⟨y0, y1, y2, y3, a0, a1, a2, a3, (hr'.fr hf (fun b hb => ⟨hb.2.1, by have := h.old; omega⟩)).more (fun b hb => ⟨hb.1, by have := hf.size; omega, hb.2.2⟩)⟩⟩
theorem Ar8.no (h : Ar8 B w wk g s F j ts vs xs) : (∃ j, Rd wk g s j) ∧ Fr (fun k => k = g) w wk := ⟨⟨_, h.rd⟩, h.fr⟩
theorem Ar8.alloc (h : Ar8 B w wk g s F j ts vs xs) (o : Obj) : Ar8 B w (wk.alloc o) g s F j ts vs xs := h.go ((Fr.refl _ wk).alloc o) (h.rd.alloc o)
/-- A part read (wl), boxed, laid in a block, appended (w6). -/
theorem Ar8.step (h : Ar8 B w wk g s F j ts vs xs) {t : Tm} {x0 x1 x2 x3 vs' : Value} {o o' : Obj} {w6 : World} (hf : Fr (fun k => k = g) wk wl) (hr : Rd wl g s j') (ht : Reads wl (fun b => wk.heap.size ≤ b ∧ b < wl.heap.size) F t (.agg #[x0, x1, x2, x3]))
    (hown : w6.ownsRow w.heap.size 28 4 vs' (ts.length + 1) (xs ++ [x0, x1, x2, x3])) (hg : ((wl.alloc o).alloc o').grownBy w6 vs.ownBlock) (hl : vs'.ownBlock = vs.ownBlock ∨ vs'.ownBlock = some ((wl.alloc o).alloc o').heap.size) :
    Ar8 B w w6 g s F j' (ts ++ [t]) vs' (xs ++ [x0, x1, x2, x3]) := by
  have A := (h.go hf hr).alloc o |>.alloc o'
  have s1 := hf.size
  have s2 := hg.size
  have s0 := h.fr.size
  have ho := h.old
  simp only [World.size_alloc] at s2 hl
  have f6 : Fr (fun b => vs.ownBlock = some b) ((wl.alloc o).alloc o') w6 := Fr.of_grown hg fun _ _ e => e
  have hvs : ∀ b, vs.ownBlock = some b → w.heap.size ≤ b ∧ b < wk.heap.size := fun b hb => h.row.lt b hb
  refine ⟨A.rd.fr f6 (fun e => by have := hvs _ e; omega), ?_, A.laid.fr f6 (fun k e => by have := hvs _ e; have := h.top; omega), h.old, h.top, by simpa using hown, ?_⟩
  · exact ⟨f6.os.trans A.fr.os, f6.tape.trans A.fr.tape, f6.output.trans A.fr.output, Nat.le_trans A.fr.size f6.size, fun i hi hs => (f6.block i (Nat.lt_of_lt_of_le hi A.fr.size) (fun e => by have := hvs _ e; omega)).trans (A.fr.block i hi hs)⟩
  · refine Done.app (S := fun b => w.heap.size ≤ b ∧ b < ((wl.alloc o).alloc o').heap.size ∧ vs.ownBlock ≠ some b) A.done A.row.1 ?_ ?_ ?_
    · rintro b ⟨a1, a2, a3⟩
      refine ⟨a1, ?_, ?_⟩
      · simp only [World.size_alloc] at a2
        omega
      · rcases hl with e | e <;> rw [e]
        · exact a3
        · intro x
          injection x with x
          simp only [World.size_alloc] at a2
          omega
    · rintro p ⟨a1, a2, a3⟩
      exact World.cell?_of_block (w := (wl.alloc o).alloc o') (f6.block _ a2 a3)
    · have e1 : Fr (fun b => vs.ownBlock = some b) wl w6 := (((Fr.refl _ wl).alloc o).alloc o').trans f6
      refine (ht.fr e1 (fun b hb => ⟨hb.2, fun x => by have := hvs _ x; omega⟩)).more ?_
      rintro b ⟨a1, a2⟩
      refine ⟨by omega, by omega, ?_⟩
      rcases hl with e | e <;> rw [e]
      · intro x
        have := hvs _ x
        omega
      · intro x
        injection x with x
        omega
end

/-- What args comes to. -/
def AOk (w : World) (g : Nat) (s : ByteArray) (F : Nat) (ts : List Tm) (j : Nat) (e : Ending) (w' : World) : Prop :=
  ∃ A c, e = .returned (.tuple #[.slice A ts.length c, .bool true]) ∧ Rd w' g s j ∧ Fr (fun k => k = g) w w' ∧
    ∀ k n nm, nm.size ≤ maxLen → (Lit.int .i64 k).wf = true → (Lit.int .i64 n).wf = true → Reads w' (fun b => w.heap.size ≤ b ∧ b < w'.heap.size) (F + 1) (.node k n nm ts) (.agg #[.int .i64 k, .int .i64 n, .string nm, .slice A ts.length c])
def ANo (w : World) (g : Nat) (s : ByteArray) (e : Ending) (w' : World) : Prop :=
  e = .returned (.tuple #[.slice none 0 0, .bool false]) ∧ (∃ j, Rd w' g s j) ∧ Fr (fun k => k = g) w w'
def ARes (w : World) (g : Nat) (s : ByteArray) (F : Nat) (i : Nat) (r : Option (List Tm × Nat)) (e : Ending) (w' : World) : Prop :=
  match r with
  | some (ts, n) => AOk w g s F ts (i + n) e w'
  | none => ANo w g s e w'
def comb (ts : List Tm) (k : Nat) (r : Option (List Tm × Nat)) : Option (List Tm × Nat) := r.map fun x => (ts ++ x.1, k + x.2)

def lenOf (v : Value) : Nat := match v with
  | .slice _ n _ => n
  | _ => 0
theorem Ar8.yes {B : Nat} {w wk : World} {g : Nat} {s : ByteArray} {F j : Nat} {ts : List Tm} {A : Option Addr} {c : Nat} {xs : List Value} (h : Ar8 B w wk g s F j ts (.slice A ts.length c) xs) :
    AOk w g s F ts j (.returned (.tuple #[.slice A ts.length c, .bool true])) wk :=
  ⟨A, c, rfl, h.rd, h.fr, fun k n nm hs hk hn => reads_of_done h.row h.done hs hk hn (fun b hb => ⟨hb.1, hb.2.1⟩) (fun b hb => h.row.lt b hb)⟩

set_option maxHeartbeats 2000000 in
theorem args_any {B : Nat} {w : World} {g : Nat} {s : ByteArray} {i m F : Nat} {p : List UInt8 → Option (Tm × Nat)} (h : Rd w g s i) (hs : s.size ≤ 100000) (hL : Laid B w) (hg : B ≤ g) (hT : TermC B g s p m F) (hm : s.size - i < m) :
    Calls Tryd.prog 46 #[.pointer (some ⟨g, 0, none⟩)] w fun e w' => ARes w g s F i (pArgs p 8 (s.data.toList.drop i)) e w' := by
  have A0 := Lib.hid (Ar8.start (F := F) h hL hg)
  have HT := Lib.hid hT
  obtain ⟨r, hr⟩ : ∃ r, pArgs p 8 (s.data.toList.drop i) = r := ⟨_, rfl⟩
  rw [hr]
  have HR : Hid (r = comb [] 0 (pArgs p (8 - 0) (s.data.toList.drop i))) := by
    show _ = _
    rw [← hr]
    cases h : pArgs p 8 (s.data.toList.drop i) with
    | none => simp [comb, h]
    | some x => simp [comb, h]
  obtain ⟨i0, hi, hz0, hz1, hz2⟩ := info_parts infoT
  clear hr hT h hL
  go_enter Tryd.func46, Tryd.ntmps46
  go_wp2_with fail
  go_loopw [4] (fun a wr => ∃ (q j : Nat) (ts : List Tm) (vs : Value) (xs : List Value), a = vs ∧ q = ts.length ∧ q ≤ 8 ∧ i ≤ j ∧ Hid (r = comb ts (j - i) (pArgs p (8 - q) (s.data.toList.drop j))) ∧ Hid (Ar8 B w wr g s F j ts vs xs)) (fun a _ => 8 - lenOf a)
  case atStart => exact ⟨0, i, [], _, [], rfl, rfl, by omega, Nat.le_refl _, by rw [Nat.sub_self]; exact HR, A0⟩
  case round =>
    obtain ⟨q, j, ts, vs, xs, rfl, hq, hq8, hij, HR1, HA1⟩ := hrel
    clear HR A0
    subst hq
    obtain ⟨A, cp, hv, _⟩ := own_form HA1.out.row
    subst hv
    by_cases h8 : ts.length < 8
    · have h8I : (ts.length : Int) < 8 := by omega
      obtain ⟨k, hk⟩ : ∃ k, 8 - ts.length = k + 1 := ⟨7 - ts.length, by omega⟩
      have hkk : k = 8 - (ts.length + 1) := by omega
      rw [hk] at HR1
      have HKK := Lib.hid hkk
      clear hk hkk
      have HC1 := HT.out _ j HA1.out.rd HA1.out.laid (by omega)
      obtain ⟨r1, hr1⟩ : ∃ r1, p (s.data.toList.drop j) = r1 := ⟨_, rfl⟩
      have H1 := Lib.hid hr1
      rw [hr1] at HC1
      have HC1 := Lib.hid HC1
      clear hr1
      cases r1 with
      | none =>
        have HX : Hid (r = none) := by
          show _ = _
          rw [HR1.out]
          simp only [pArgs, H1.out, comb, Option.map_none]
        go_wp2_with (go_at_call 24; refine HC1.out.mono ?_; rintro e w1 ⟨rfl, ⟨j1, hj1⟩, hf1⟩; have A1 := Lib.hid ((HA1.out.go hf1 hj1).alloc (.cells #[.int .i64 0, .int .i64 0, .string ⟨#[]⟩, .slice none 0 0] 28)); clear hj1 hf1)
        go_ret2
        rw [HX.out]
        exact ⟨rfl, A1.out.no⟩
      | some x =>
        obtain ⟨t, n⟩ := x
        go_wp2_with (first
            | (go_at_call 24; refine HC1.out.mono ?_; rintro e w1 ⟨v1, rfl, hj1, hf1, hr1⟩; obtain ⟨k1, n1, s1, A1, l1, cp1, hv1⟩ := hr1.form; rw [hv1] at hr1; rw [hv1]; clear hv1; have HJ1 := Lib.hid hj1; have HF1 := Lib.hid hf1; have HRD := Lib.hid hr1; have HA2 := Lib.hid (((HA1.out.go hf1 hj1).alloc (.cells #[.int .i64 k1, .int .i64 n1, .string s1, .slice A1 l1 cp1] 28)).alloc (.cells #[.int .i64 k1, .int .i64 n1, .string s1, .slice A1 l1 cp1] 28)); clear hj1 hf1 hr1)
            | (at_builtin; refine wpList_own_at _ rfl (.tmp 17) (.tmp 19) 26 rfl w.heap.size 28 i0 _ 4 56 Tryd.underlying26 hi hz0 hz1 hz2 rfl (by decide) (.slice A ts.length cp) ts.length xs rfl HA2.out.row ⟨w1.heap.size + 1, 0, none⟩ 1 1 [.int .i64 k1, .int .i64 n1, .string s1, .slice A1 l1 cp1] rfl rfl (by intro jj u hu; have e4 := cells_four (w1.alloc (.cells #[.int .i64 k1, .int .i64 n1, .string s1, .slice A1 l1 cp1] 28)) _ _ _ _ 28 jj u hu; simpa using e4) (by intro u hu; simp only [List.mem_cons, List.not_mem_nil, or_false] at hu; rcases hu with rfl | rfl | rfl | rfl <;> rfl) (by unfold maxLen; omega) (by omega) (by have := HA2.out.fr.size; exact this) ?_; intro v6 w6 hown6 hgr6 hloc6; have HA3 := Lib.hid (HA1.out.step HF1.out HJ1.out HRD.out hown6 hgr6 hloc6); obtain ⟨A6, cp6, hv6, _⟩ := own_form hown6; rw [hv6] at HA3 ⊢; clear hv6 hown6 hgr6 hloc6))
        have hlen : (ts ++ [t]).length = ts.length + 1 := by simp
        have HLN := Lib.hid hlen
        clear hlen
        obtain ⟨z, hz⟩ : ∃ z, headIs (s.data.toList.drop (j + n)) 41 = z := ⟨_, rfl⟩
        have H2 := Lib.hid hz
        clear hz
        cases z
        · obtain ⟨z, hz⟩ : ∃ z, headIs (s.data.toList.drop (j + n)) 44 = z := ⟨_, rfl⟩
          have H3 := Lib.hid hz
          clear hz
          have hfl : True := trivial
          cases z
          · have HX : Hid (r = none) := by
              show _ = _
              rw [HR1.out]
              simp only [pArgs, H1.out, drop_drop, H2.out, H3.out, if_false, Bool.false_eq_true, comb, Option.map_none]
            go_wp2_with (go_at_call 35; first
              | (have _ := hfl; clear hfl; refine (skip_is_no HA3.out.rd hs 41 _ rfl H2.out).mono ?_; rintro e w7 ⟨rfl, hj7, hf7⟩; have HA4 := Lib.hid (HA3.out.go hf7 hj7); clear hj7 hf7)
              | (refine (skip_is_no HA4.out.rd hs 44 _ rfl H3.out).mono ?_; rintro e w8 ⟨rfl, hj8, hf8⟩; have HA5 := Lib.hid (HA4.out.go hf8 hj8); clear hj8 hf8))
            go_ret2
            rw [HX.out]
            exact ⟨rfl, HA5.out.no⟩
          · have HX : Hid (r = comb (ts ++ [t]) (j + n + 1 - i) (pArgs p (8 - (ts ++ [t]).length) (s.data.toList.drop (j + n + 1)))) := by
              show _ = _
              rw [HR1.out, HLN.out, ← HKK.out]
              simp only [pArgs, H1.out, drop_drop, H2.out, H3.out, if_true, if_false, Bool.false_eq_true, comb, ← Nat.add_assoc]
              cases pArgs p k (s.data.toList.drop (j + n + 1)) with
              | none => rfl
              | some x =>
                refine congrArg some (Prod.ext ?_ ?_)
                · simp
                · dsimp only
                  omega
            go_wp2_with (go_at_call 35; first
              | (have _ := hfl; clear hfl; refine (skip_is_no HA3.out.rd hs 41 _ rfl H2.out).mono ?_; rintro e w7 ⟨rfl, hj7, hf7⟩; have HA4 := Lib.hid (HA3.out.go hf7 hj7); clear hj7 hf7)
              | (refine (skip_is_yes HA4.out.rd hs 44 _ rfl H3.out).mono ?_; rintro e w8 ⟨rfl, hj8, hf8⟩; have HA5 := Lib.hid (HA4.out.go hf8 hj8); clear hj8 hf8))
            go_roundw
            case rel => exact ⟨(ts ++ [t]).length, j + n + 1, ts ++ [t], _, _, rfl, rfl, by rw [HLN.out]; omega, by omega, HX, HA5⟩
            case measure => simp only [lenOf]; omega
        · have HX : Hid (r = some (ts ++ [t], j - i + (n + 1))) := by
            show _ = _
            rw [HR1.out]
            simp only [pArgs, H1.out, drop_drop, H2.out, if_true, comb, Option.map_some]
          go_wp2_with (go_at_call 35; refine (skip_is_yes HA3.out.rd hs 41 _ rfl H2.out).mono ?_; rintro e w7 ⟨rfl, hj7, hf7⟩; have HA4 := Lib.hid (HA3.out.go hf7 hj7); clear hj7 hf7)
          go_ret2
          rw [HX.out]
          have hj9 : i + (j - i + (n + 1)) = j + n + 1 := by omega
          show AOk _ _ _ _ _ _ _ _
          rw [hj9]
          have HA5 := HA4.out
          rw [← HLN.out] at HA5
          have := HA5.yes
          rw [HLN.out] at this
          exact this
    · have h8I : ¬ (ts.length : Int) < 8 := by omega
      have HX : Hid (r = none) := by
        show _ = _
        have e : 8 - ts.length = 0 := by omega
        rw [HR1.out, e]
        rfl
      go_wp2_with fail
      go_ret2
      rw [HX.out]
      exact ⟨rfl, HA1.out.no⟩
end Go.Proofs.YtkfmagbaklikmaaDoor
