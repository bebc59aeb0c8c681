/-
  The program's reader: instr: an instruction's bytes, or that there is no such Op. Condition: the world holds the names of the instructions.
-/
import Derived.Test.YtfknoecgcoapcaaDoorObjN
namespace Go.Proofs.YtfknoecgcoapcaaDoor
open Go Go.RowKit Go.WideShapes Go.ChangeShapes
set_option linter.unusedVariables false
set_option linter.unusedSimpArgs false

def insV5 (op : Int) (ls : List Int) : Array Value := #[.int .i64 op, .int .i64 (ls.getD 0 0), .int .i64 (ls.getD 1 0), .int .i64 (ls.getD 2 0), .int .i64 (ls.getD 3 0)]
/-- What reading an instruction keeps. -/
structure It (w0 w wr : World) (R g : Nat) (r : Rd) (op : Int) (ls : List Int) : Prop where
  rd : RdAt w0 wr R r
  box : Box wr g 69 (insV5 op ls)
  old : Fr (fun b => b = R ∨ w.heap.size ≤ b) w wr
  lt : R < w.heap.size ∧ w.heap.size ≤ g ∧ w0.heap.size ≤ R
  bytes : ∀ c ∈ r.rest, c < 256
section
variable {w0 w wr w' : World} {R g : Nat} {r r' : Rd} {op : Int} {ls : List Int}
theorem It.read (h : It w0 w wr R g r op ls) (hr : RdAt w0 w' R r') (hf : Fr (fun b => b = R) wr w') (hb : ∀ c ∈ r'.rest, c < 256) : It w0 w w' R g r' op ls :=
  ⟨hr, h.box.fr hf (fun e => by have := h.lt; omega), h.old.trans (hf.mono fun _ _ e => .inl e), h.lt, hb⟩
theorem It.up (h : It w0 w wr R g r op ls) (hb : Below wr.heap.size wr w') : It w0 w w' R g r op ls :=
  ⟨h.rd.up hb, h.box.below hb h.box.lt, h.old.trans (Fr.of_below hb), h.lt, h.bytes⟩
theorem It.op_ (h : It w0 w wr R g r 0 []) (op : Int) : It w0 w (wr.setCell ⟨g, 0, none⟩ (.int .i64 op)) R g r op [] := by
  refine ⟨h.rd.fr ((Fr.refl (fun b => b = g) wr).setCell (p := ⟨g, 0, none⟩) (.inl rfl) _) (fun e => by have := h.lt; omega) (fun k e => by have := h.lt; omega), ?_, h.old.setCell (p := ⟨g, 0, none⟩) (.inl (.inr h.lt.2.1)) _, h.lt, h.bytes⟩
  have := h.box.set_ 0 (.int .i64 op)
  simpa [insV5] using this
theorem It.arg_ (h : It w0 w wr R g r op ls) (hl : ls.length < 4) (x : Int) : It w0 w (wr.setCell ⟨g, 1 + ls.length, none⟩ (.int .i64 x)) R g r op (ls ++ [x]) := by
  refine ⟨h.rd.fr ((Fr.refl (fun b => b = g) wr).setCell (p := ⟨g, 1 + ls.length, none⟩) (.inl rfl) _) (fun e => by have := h.lt; omega) (fun k e => by have := h.lt; omega), ?_, h.old.setCell (p := ⟨g, 1 + ls.length, none⟩) (.inl (.inr h.lt.2.1)) _, h.lt, h.bytes⟩
  have h1 := h.box.set_ (1 + ls.length) (.int .i64 x)
  have e : (insV5 op ls).setIfInBounds (1 + ls.length) (.int .i64 x) = insV5 op (ls ++ [x]) := by
    match ls, hl with
    | [], _ => rfl
    | [a], _ => rfl
    | [a, b], _ => rfl
    | [a, b, c], _ => rfl
    | a :: b :: c :: d :: r, hl => simp at hl; omega
  rw [← e]
  exact h1
theorem It.cell (h : It w0 w wr R g r op ls) (k : Nat) (hk : k < 4) : wr.cell? ⟨g, 1 + k, none⟩ = some (.int .i64 (ls.getD k 0)) ∧ wr.frozen? ⟨g, 1 + k, none⟩ = false := by
  refine ⟨?_, h.box.frozen _⟩
  rw [h.box.cell (1 + k)]
  match k, hk with
  | 0, _ => rfl
  | 1, _ => rfl
  | 2, _ => rfl
  | 3, _ => rfl
end

theorem argsR_step (ks : List Int) (k : Nat) (h : k < ks.length) (r : Rd) : argsR (ks.drop k) r = (((numR (sizeK (ks.getD k 0)) r).1 : Int) :: (argsR (ks.drop (k + 1)) (numR (sizeK (ks.getD k 0)) r).2).1, (argsR (ks.drop (k + 1)) (numR (sizeK (ks.getD k 0)) r).2).2) := by
  rw [List.drop_eq_getElem_cons h, argsR, List.getD_eq_getElem?_getD, List.getElem?_eq_getElem h]
  rfl

/-- Five cells stored, and handed back with a bool. -/
theorem ret_store5 {P : Program} {fn : Func} {Q : Ending → World → Prop} {T : Array Value} {w2 : World} {G : Nat} {t : TypeId} {z0 z1 z2 z3 z4 a b c d e x : Value} (hb : Box w2 G t #[z0, z1, z2, z3, z4])
    (hres : ∀ W : World, W.cell? ⟨G, 0, none⟩ = some a → W.cell? ⟨G, 1, none⟩ = some b → W.cell? ⟨G, 2, none⟩ = some c → W.cell? ⟨G, 3, none⟩ = some d → W.cell? ⟨G, 4, none⟩ = some e → (results fn T).run P W = .ok (.tuple #[.agg #[a, b, c, d, e], x]) W)
    (hQ : ∀ W : World, Box W G t #[a, b, c, d, e] → Fr (fun k => k = G) w2 W → Q (.returned (.tuple #[.agg #[a, b, c, d, e], x])) W) :
    bodyPost P fn Q .ret { tmps := T, defers := [] } (((((w2.setCell ⟨G, 0, none⟩ a).setCell ⟨G, 1, none⟩ b).setCell ⟨G, 2, none⟩ c).setCell ⟨G, 3, none⟩ d).setCell ⟨G, 4, none⟩ e) := by
  have h4 : Box (((((w2.setCell ⟨G, 0, none⟩ a).setCell ⟨G, 1, none⟩ b).setCell ⟨G, 2, none⟩ c).setCell ⟨G, 3, none⟩ d).setCell ⟨G, 4, none⟩ e) G t #[a, b, c, d, e] := by
    have := ((((hb.set_ 0 a).set_ 1 b).set_ 2 c).set_ 3 d).set_ 4 e
    simpa using this
  have hf : Fr (fun k => k = G) w2 (((((w2.setCell ⟨G, 0, none⟩ a).setCell ⟨G, 1, none⟩ b).setCell ⟨G, 2, none⟩ c).setCell ⟨G, 3, none⟩ d).setCell ⟨G, 4, none⟩ e) :=
    (((((Fr.refl (fun b => b = G) w2).setCell (p := ⟨G, 0, none⟩) (.inl rfl) _).setCell (p := ⟨G, 1, none⟩) (.inl rfl) _).setCell (p := ⟨G, 2, none⟩) (.inl rfl) _).setCell (p := ⟨G, 3, none⟩) (.inl rfl) _).setCell (p := ⟨G, 4, none⟩) (.inl rfl) _
  exact bodyPost_ret (hres _ (h4.cell 0) (h4.cell 1) (h4.cell 2) (h4.cell 3) (h4.cell 4)) rfl (hQ _ h4 hf)

/-- What reading an instruction comes to. -/
def InsRes (w0 w : World) (R : Nat) (r : Rd) (e : Ending) (w' : World) : Prop :=
  (insR r = none ∧ e = .returned (.tuple #[.agg #[.int .i64 0, .int .i64 0, .int .i64 0, .int .i64 0, .int .i64 0], .bool false]) ∧ Fr (fun b => b = R) w w') ∨
    ∃ (i : Ins) (r' : Rd), insR r = some (i, r') ∧ e = .returned (.tuple #[.agg #[.int .i64 i.1, .int .i64 i.2.1, .int .i64 i.2.2.1, .int .i64 i.2.2.2.1, .int .i64 i.2.2.2.2], .bool true]) ∧ RdAt w0 w' R r' ∧ Fr (fun b => b = R) w w' ∧ ∀ c ∈ r'.rest, c < 256

theorem old_only {w w' : World} {R : Nat} (h : Fr (fun b => b = R ∨ w.heap.size ≤ b) w w') : Fr (fun b => b = R) w w' := h.mono fun k hk e => by
  rcases e with e | e
  · exact e
  · omega

set_option maxRecDepth 100000 in
set_option maxHeartbeats 8000000 in
theorem instr_any (r : Rd) (hr : ∀ c ∈ r.rest, c < 256) (R : Nat) (w0 w : World) (h : RdAt w0 w R r) (hR : R < w.heap.size) (hw : NamesAt w) (hgn : R ≠ 0) :
    Calls Tryd.prog 68 #[.pointer (some ⟨R, 0, none⟩)] w (InsRes w0 w R r) := by
  have HT0 : Hid (It w0 w (w.alloc (.cells #[.int .i64 0, .int .i64 0, .int .i64 0, .int .i64 0, .int .i64 0] 69)) R w.heap.size r 0 []) := Lib.hid
    ⟨h.up (alloc_below w _), Box.new w _ _, Fr.of_below (alloc_below w _), ⟨hR, Nat.le_refl _, h.new⟩, hr⟩
  have HNU := Lib.hid (number_any 1 (by omega) r hr R w0 _ HT0.out.rd)
  have hnl := num_lt (n := 1) hr
  have HBY := Lib.hid hnl.2
  have hn256 : (numR 1 r).1 < 256 := hnl.1
  have HIR : Hid (insR r = if 26 < (numR 1 r).1 then none else some (insOf (numR 1 r).1 (argsR (opsOf (numR 1 r).1) (numR 1 r).2).1, (argsR (opsOf (numR 1 r).1) (numR 1 r).2).2)) := Lib.hid rfl
  unfold Read at HNU
  unfold InsRes
  generalize insR r = ir at HIR
  generalize (numR 1 r).2 = r1 at HNU HBY HIR
  generalize (numR 1 r).1 = m at HNU hn256 HIR
  have HWN := Lib.hid (fun (w' : World) (hf : Fr (fun b => b = R ∨ w.heap.size ≤ b) w w') => (show NamesAt w' by
    obtain ⟨t, fr, hb⟩ := hw
    exact ⟨t, fr, (hf.block _ (Array.getElem?_eq_some_iff.1 hb).1 (fun e => by
      have := (Array.getElem?_eq_some_iff.1 hb).1
      rcases e with e | e
      · exact hgn e.symm
      · omega)).trans hb⟩))
  clear h hr hR hw hgn hnl
  by_cases hbig : 26 < m
  · have hnm : nameOf (m : Int) = ⟨#[]⟩ := if_neg (by omega)
    have HNAME := Lib.hid (fun w hw => hnm ▸ name_any (m : Int) w hw)
    have HX : Hid (ir = none) := Lib.hid (by rw [HIR.out, if_pos hbig])
    have c0 := HT0.out.box.cell 0
    have f0 := HT0.out.box.frozen 0
    clear hnm hbig
    go_enter Tryd.func68, Tryd.ntmps68
    go_upto_region 3 with (first
      | (go_at_call 66; refine HNU.out.mono ?_; rintro e w5 ⟨rfl, hr5, hf5⟩; have HT5 := Lib.hid (HT0.out.read hr5 hf5 HBY.out); have c5 := HT5.out.box.cell 0; have f5 := HT5.out.box.frozen 0; have HT6 := Lib.hid (HT5.out.op_ (m : Int)); clear hr5 hf5)
      | (go_at_call 60; refine (HNAME.out _ (HWN.out _ HT6.out.old)).mono ?_; rintro e w6 ⟨rfl, rfl⟩))
    obtain ⟨w6, hw6⟩ : ∃ w6, w5.setCell ⟨w.heap.size, 0, none⟩ (.int .i64 (m : Int)) = w6 := ⟨_, rfl⟩
    rw [hw6] at HT6 ⊢
    have b0 : w6.cell? ⟨w.heap.size, 0, none⟩ = some (.int .i64 (m : Int)) := HT6.out.box.cell 0
    have b1 : w6.cell? ⟨w.heap.size, 1, none⟩ = some (.int .i64 0) := HT6.out.box.cell 1
    have b2 : w6.cell? ⟨w.heap.size, 2, none⟩ = some (.int .i64 0) := HT6.out.box.cell 2
    have b3 : w6.cell? ⟨w.heap.size, 3, none⟩ = some (.int .i64 0) := HT6.out.box.cell 3
    have b4 : w6.cell? ⟨w.heap.size, 4, none⟩ = some (.int .i64 0) := HT6.out.box.cell 4
    have z0 : w6.frozen? ⟨w.heap.size, 0, none⟩ = false := HT6.out.box.frozen 0
    have z1 : w6.frozen? ⟨w.heap.size, 1, none⟩ = false := HT6.out.box.frozen 1
    have z2 : w6.frozen? ⟨w.heap.size, 2, none⟩ = false := HT6.out.box.frozen 2
    have z3 : w6.frozen? ⟨w.heap.size, 3, none⟩ = false := HT6.out.box.frozen 3
    have z4 : w6.frozen? ⟨w.heap.size, 4, none⟩ = false := HT6.out.box.frozen 4
    clear c0 f0 c5 f5 hw6
    go_wp2
    refine ret_store5 (x := .bool false) HT6.out.box (by intro W c0 c1 c2 c3 c4; simp [results, Tryd.results68, go_sem, c0, c1, c2, c3, c4]) ?_
    intro W hW hF
    exact .inl ⟨HX.out, rfl, old_only (HT6.out.old.trans (hF.mono fun k hk e => .inr (by omega)))⟩
  · obtain ⟨nm, hnm⟩ : ∃ nm, nameAt m = nm := ⟨_, rfl⟩
    have hne := name_nonempty m (by omega)
    have hnm2 : nameOf (m : Int) = nm := by rw [nameOf, if_pos (by omega)]; exact hnm
    rw [hnm] at hne
    have HNAME := Lib.hid (fun w hw => hnm2 ▸ name_any (m : Int) w hw)
    have HX : Hid (ir = some (insOf m (argsR (opsOf m) r1).1, (argsR (opsOf m) r1).2)) := Lib.hid (by rw [HIR.out, if_neg hbig])
    have HOPN := Lib.hid (fun (h : opsOf (m : Int) = []) w => operands_none (m : Int) h w)
    have HOPS := Lib.hid (fun n hn h0 w => operands_some (m : Int) n hn h0 w)
    have HFEW := Lib.hid (ops_few (m : Int))
    have c0 := HT0.out.box.cell 0
    have f0 := HT0.out.box.frozen 0
    clear hnm hnm2 hbig HIR
    go_enter Tryd.func68, Tryd.ntmps68
    go_upto_region 3 with (first
      | (go_at_call 66; refine HNU.out.mono ?_; rintro e w5 ⟨rfl, hr5, hf5⟩; have HT5 := Lib.hid (HT0.out.read hr5 hf5 HBY.out); have c5 := HT5.out.box.cell 0; have f5 := HT5.out.box.frozen 0; have HT6 := Lib.hid (HT5.out.op_ (m : Int)); clear hr5 hf5)
      | (go_at_call 60; refine (HNAME.out _ (HWN.out _ HT6.out.old)).mono ?_; rintro e w6 ⟨rfl, rfl⟩))
    obtain ⟨w6, hw6⟩ : ∃ w6, w5.setCell ⟨w.heap.size, 0, none⟩ (.int .i64 (m : Int)) = w6 := ⟨_, rfl⟩
    rw [hw6] at HT6 ⊢
    clear c0 f0 c5 f5 hw6 HT5 HT0 HNU
    by_cases ho : opsOf (m : Int) = []
    · have HX2 : Hid (ir = some (((m : Int), 0, 0, 0, 0), r1)) := Lib.hid (by rw [HX.out, ho]; rfl)
      refine (HOPN.out ho _).mono ?_
      rintro e w7 ⟨rfl, rfl⟩
      clear ho HX
      go_wp2
      go_loopw [18] (fun i wr => i = .int .i64 0 ∧ w6 = wr) (fun _ _ => 0)
      case atStart => exact ⟨rfl, rfl⟩
      obtain ⟨rfl, rfl⟩ := hrel
      have b0 : w6.cell? ⟨w.heap.size, 0, none⟩ = some (.int .i64 (m : Int)) := HT6.out.box.cell 0
      have b1 : w6.cell? ⟨w.heap.size, 1, none⟩ = some (.int .i64 0) := HT6.out.box.cell 1
      have b2 : w6.cell? ⟨w.heap.size, 2, none⟩ = some (.int .i64 0) := HT6.out.box.cell 2
      have b3 : w6.cell? ⟨w.heap.size, 3, none⟩ = some (.int .i64 0) := HT6.out.box.cell 3
      have b4 : w6.cell? ⟨w.heap.size, 4, none⟩ = some (.int .i64 0) := HT6.out.box.cell 4
      have z0 : w6.frozen? ⟨w.heap.size, 0, none⟩ = false := HT6.out.box.frozen 0
      have z1 : w6.frozen? ⟨w.heap.size, 1, none⟩ = false := HT6.out.box.frozen 1
      have z2 : w6.frozen? ⟨w.heap.size, 2, none⟩ = false := HT6.out.box.frozen 2
      have z3 : w6.frozen? ⟨w.heap.size, 3, none⟩ = false := HT6.out.box.frozen 3
      have z4 : w6.frozen? ⟨w.heap.size, 4, none⟩ = false := HT6.out.box.frozen 4
      go_wp2
      refine ret_store5 (x := .bool true) HT6.out.box (by intro W c0 c1 c2 c3 c4; simp [results, Tryd.results68, go_sem, c0, c1, c2, c3, c4]) ?_
      intro W hW hF
      exact .inr ⟨_, _, HX2.out, rfl, HT6.out.rd.fr hF (by have := HT6.out.lt; omega) (fun k hk => by have := HT6.out.lt; omega), old_only (HT6.out.old.trans (hF.mono fun k hk e => .inr (by omega))), HT6.out.bytes⟩
    · obtain ⟨n, hn⟩ : ∃ n, (opsOf (m : Int)).length = n := ⟨_, rfl⟩
      have hn0 : 0 < n := by rw [← hn]; exact List.length_pos_iff.2 ho
      have hn4 : n ≤ 4 := by rw [← hn]; exact HFEW.out
      have HN := Lib.hid hn
      refine (HOPS.out n hn hn0 _).mono ?_
      rintro e w7 ⟨rfl, hw7⟩
      have HT7 : Hid (It w0 w w7 R w.heap.size r1 (m : Int) []) := Lib.hid (HT6.out.up (by rw [← hw7]; exact alloc_below w6 _))
      have HKB : Hid (Box w7 w6.heap.size 3 ((opsOf (m : Int)).map (Value.int .i64)).toArray) := Lib.hid (by rw [← hw7]; exact Box.new _ _ _)
      have HGK : Hid (w.heap.size < w6.heap.size) := Lib.hid HT6.out.box.lt
      obtain ⟨gk, hgk⟩ : ∃ gk, w6.heap.size = gk := ⟨_, rfl⟩
      rw [hgk] at HKB HGK ⊢
      clear hw7 ho hn hn0 hgk HT6
      go_wp2
      go_loopw [18] (fun i wr => ∃ (k : Nat) (r' : Rd) (ls : List Int), k ≤ n ∧ i = .int .i64 k ∧ ls.length = k ∧ Hid (It w0 w wr R w.heap.size r' (m : Int) ls) ∧ Hid (Box wr gk 3 ((opsOf (m : Int)).map (Value.int .i64)).toArray) ∧ Hid (ls ++ (argsR ((opsOf (m : Int)).drop k) r').1 = (argsR (opsOf (m : Int)) r1).1 ∧ (argsR ((opsOf (m : Int)).drop k) r').2 = (argsR (opsOf (m : Int)) r1).2)) (fun i _ => n - (intOf i).toNat)
      case atStart => exact ⟨0, r1, [], by omega, rfl, rfl, HT7, HKB, Lib.hid ⟨rfl, rfl⟩⟩
      obtain ⟨k, r', ls, hk, rfl, hls, HT, HK, HP⟩ := hrel
      clear HT7 HKB
      by_cases hlt : k < n
      case pos =>
        have hkc := HK.out.cell k
        rw [show ((opsOf (m : Int)).map (Value.int .i64)).toArray[k]? = some (.int .i64 ((opsOf (m : Int)).getD k 0)) by
          have := HN.out
          simp [List.getD_eq_getElem?_getD, show k < (opsOf (m : Int)).length by omega]] at hkc
        have hst := argsR_step (opsOf (m : Int)) k (by rw [HN.out]; exact hlt) r'
        have HSZ := Lib.hid (fun w => osize_any ((opsOf (m : Int)).getD k 0) w)
        have HNM := Lib.hid (number_any (sizeK ((opsOf (m : Int)).getD k 0)) (by have := sizeK_le ((opsOf (m : Int)).getD k 0); omega) r' HT.out.bytes R w0 wr HT.out.rd)
        have HBY2 := Lib.hid (num_lt (n := sizeK ((opsOf (m : Int)).getD k 0)) HT.out.bytes).2
        have HP2 : Hid ((ls ++ [((numR (sizeK ((opsOf (m : Int)).getD k 0)) r').1 : Int)]) ++ (argsR ((opsOf (m : Int)).drop (k + 1)) (numR (sizeK ((opsOf (m : Int)).getD k 0)) r').2).1 = (argsR (opsOf (m : Int)) r1).1 ∧ (argsR ((opsOf (m : Int)).drop (k + 1)) (numR (sizeK ((opsOf (m : Int)).getD k 0)) r').2).2 = (argsR (opsOf (m : Int)) r1).2) := Lib.hid (by
          have h := HP.out
          rw [hst] at h
          exact ⟨by rw [← h.1]; simp, h.2⟩)
        unfold Read at HNM
        generalize (opsOf (m : Int)).getD k 0 = y at hkc HSZ HNM HBY2 HP2
        generalize (numR (sizeK y) r').1 = x at HNM HP2
        generalize (numR (sizeK y) r').2 = r2 at HNM HP2 HBY2
        clear hst
        have d1 : decide ((k : Int) < (4 : Int)) = true := by rw [decide_eq_true_eq]; omega
        have d2 : (k : Int) < 4 := by omega
        have d5 : (0 : Int) ≤ (k : Int) := by omega
        have HK5 : ∀ w' : World, Fr (fun b => b = R) wr w' → Hid (Box w' gk 3 ((opsOf (m : Int)).map (Value.int .i64)).toArray) := fun w' hf => Lib.hid (HK.out.fr hf (fun e => by have := HT.out.lt; have := HGK.out; omega))
        go_wp2_with (first
          | (go_at_call 55; refine (HSZ.out _).mono ?_; rintro e w8 ⟨rfl, rfl⟩)
          | (go_at_call 66; refine HNM.out.mono ?_; rintro e w8 ⟨rfl, hr8, hf8⟩; have HT8 := Lib.hid (HT.out.read hr8 hf8 HBY2.out); have HK8 := HK5 _ hf8; obtain ⟨e0, e1⟩ := HT8.out.cell k (by omega); have HT9 := Lib.hid (HT8.out.arg_ (by omega) (x : Int)); rw [hls] at HT9; clear hr8 hf8))
        go_roundw
        case rel => exact ⟨k + 1, r2, _, by omega, by go_num, by simp [hls], HT9, Lib.hid (HK8.out.far (by have := HGK.out; simp; omega) _), HP2⟩
        case measure => simp [intOf]; omega
      obtain rfl : k = n := by omega
      have HX2 : Hid (ir = some (((m : Int), ls.getD 0 0, ls.getD 1 0, ls.getD 2 0, ls.getD 3 0), r')) := Lib.hid (by
        have h := HP.out
        rw [List.drop_of_length_le (by rw [HN.out]; omega)] at h
        simp only [argsR, List.append_nil] at h
        rw [HX.out, ← h.1, ← h.2]
        rfl)
      have b0 : wr.cell? ⟨w.heap.size, 0, none⟩ = some (.int .i64 (m : Int)) := HT.out.box.cell 0
      have b1 : wr.cell? ⟨w.heap.size, 1, none⟩ = some (.int .i64 (ls.getD 0 0)) := HT.out.box.cell 1
      have b2 : wr.cell? ⟨w.heap.size, 2, none⟩ = some (.int .i64 (ls.getD 1 0)) := HT.out.box.cell 2
      have b3 : wr.cell? ⟨w.heap.size, 3, none⟩ = some (.int .i64 (ls.getD 2 0)) := HT.out.box.cell 3
      have b4 : wr.cell? ⟨w.heap.size, 4, none⟩ = some (.int .i64 (ls.getD 3 0)) := HT.out.box.cell 4
      have hbx : Box wr w.heap.size 69 #[.int .i64 (m : Int), .int .i64 (ls.getD 0 0), .int .i64 (ls.getD 1 0), .int .i64 (ls.getD 2 0), .int .i64 (ls.getD 3 0)] := HT.out.box
      have HBX := Lib.hid hbx
      clear hbx
      generalize ls.getD 0 0 = l0 at b1 HX2 HBX
      generalize ls.getD 1 0 = l1 at b2 HX2 HBX
      generalize ls.getD 2 0 = l2 at b3 HX2 HBX
      generalize ls.getD 3 0 = l3 at b4 HX2 HBX
      have z0 : wr.frozen? ⟨w.heap.size, 0, none⟩ = false := HT.out.box.frozen 0
      have z1 : wr.frozen? ⟨w.heap.size, 1, none⟩ = false := HT.out.box.frozen 1
      have z2 : wr.frozen? ⟨w.heap.size, 2, none⟩ = false := HT.out.box.frozen 2
      have z3 : wr.frozen? ⟨w.heap.size, 3, none⟩ = false := HT.out.box.frozen 3
      have z4 : wr.frozen? ⟨w.heap.size, 4, none⟩ = false := HT.out.box.frozen 4
      go_wp2
      refine ret_store5 (x := .bool true) HBX.out (by intro W c0 c1 c2 c3 c4; simp [results, Tryd.results68, go_sem, c0, c1, c2, c3, c4]) ?_
      intro W hW hF
      exact .inr ⟨_, _, HX2.out, rfl, HT.out.rd.fr hF (by have := HT.out.lt; omega) (fun k hk => by have := HT.out.lt; omega), old_only (HT.out.old.trans (hF.mono fun k hk e => .inr (by omega))), HT.out.bytes⟩

end Go.Proofs.YtfknoecgcoapcaaDoor
