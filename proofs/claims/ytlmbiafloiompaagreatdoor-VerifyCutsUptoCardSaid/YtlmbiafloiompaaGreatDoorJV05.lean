/-
  An append of one element onto a row of the call's own, as an equation for the walk; and the program's called. Condition: at most a million elements.
-/
import Derived.Test.YtlmbiafloiompaaGreatDoorJV04
import Derived.Maps.AppendAt
import Derived.Lib.AppendStr
namespace Go.Proofs.YtlmbiafloiompaaGreatDoor
open Go Go.RowKit Go.WideShapes Go.ChangeShapes
set_option linter.unusedVariables false
set_option linter.unusedSimpArgs false

/-- A slice's type, its element's, how many cells and bytes that takes. -/
structure SlT (t e : TypeId) (size bytes : Nat) : Prop where
  und : Tryz.prog.underlying t = some (.slice e)
  info : ∃ z, (Tryz.prog.info? e).map (fun i => (i.zero, i.size, i.bytes)) = some (some z, size, bytes) ∧ z.cells.size = size
  pos : 0 < size
  small : bytes ≤ 100

/-- What an append does: the row, what may have turned, where the new row lies. -/
structure App (w w' : World) (base : Nat) (e : TypeId) (size : Nat) (v v' : Value) (n : Nat) (xs : List Value) : Prop where
  own : w'.ownsRow base e size v' n xs
  fr : Fr (fun b => v.ownBlock = some b) w w'
  at_ : v'.ownBlock = v.ownBlock ∨ ∃ g, v'.ownBlock = some g ∧ w.heap.size ≤ g
  form : ∃ A c, v' = .slice A n c

theorem own_ge {w : World} {base : Nat} {e : TypeId} {size n : Nat} {v : Value} {xs : List Value} (h : w.ownsRow base e size v n xs) {b : Nat} (hb : v.ownBlock = some b) : base ≤ b ∧ b < w.heap.size := by
  rcases h.2 with ⟨rfl, _⟩ | ⟨g, cap, cur, rfl, hg, hh, _⟩
  · simp [Value.ownBlock] at hb
  · obtain rfl : g = b := by simpa [Value.ownBlock] using hb
    exact ⟨hg, (Array.getElem?_eq_some_iff.1 hh).1⟩

theorem App.below {w w' : World} {base : Nat} {e : TypeId} {size : Nat} {v v' : Value} {n m : Nat} {xs ys : List Value} (h : App w w' base e size v v' n xs) (ho : w.ownsRow base e size v m ys) (hb : base ≤ w.heap.size) : Below base w w' :=
  h.fr.below hb (fun k hk => (own_ge ho hk).1)
theorem App.trans {w w' w'' : World} {base : Nat} {e : TypeId} {size : Nat} {v v' v'' : Value} {n m : Nat} {xs ys : List Value} (h : App w w' base e size v v' n xs) (k : App w' w'' base e size v' v'' m ys) : App w w'' base e size v v'' m ys := by
  refine ⟨k.own, ?_, ?_, k.form⟩
  · refine ⟨k.fr.os.trans h.fr.os, k.fr.tape.trans h.fr.tape, k.fr.output.trans h.fr.output, Nat.le_trans h.fr.size k.fr.size, fun i hi hs => (k.fr.block i (Nat.lt_of_lt_of_le hi h.fr.size) (fun hv => ?_)).trans (h.fr.block i hi hs)⟩
    rcases h.at_ with e2 | ⟨g, e2, hg⟩
    · exact hs (e2.symm.trans hv)
    · rw [e2] at hv
      injection hv with hv
      omega
  · rcases k.at_ with e1 | ⟨g, e1, hg⟩
    · rcases h.at_ with e2 | ⟨g, e2, hg⟩
      · exact .inl (e1.trans e2)
      · exact .inr ⟨g, e1.trans e2, hg⟩
    · exact .inr ⟨g, e1, Nat.le_trans h.fr.size hg⟩
theorem App.refl {w : World} {base : Nat} {e : TypeId} {size : Nat} {v : Value} {n : Nat} {xs : List Value} (h : w.ownsRow base e size v n xs) : App w w base e size v v n xs := ⟨h, Fr.refl _ _, .inl rfl, own_form h |>.imp fun _ ⟨c, h, _⟩ => ⟨c, h⟩⟩

theorem app_one {t e : TypeId} {size bytes : Nat} (T : SlT t e size bytes) {wr : World} {base n : Nat} {v : Value} {xs : List Value} (hown : wr.ownsRow base e size v n xs) (news : List Value) (hl : news.length = size)
    (h1 : ∀ u ∈ news, u.oneCell' = true) (hn : n ≤ 1000000) (hbase : base ≤ wr.heap.size) (ty : TypeId) :
    ∃ v' w', (Builtin.append_ #[t, t] ty #[v, .slice (some ⟨wr.heap.size, 0, none⟩) 1 1]).run Tryz.prog (wr.alloc (.cells news.toArray e)) = .ok v' w' ∧ Hid (App wr w' base e size v v' (n + 1) (xs ++ news)) := by
  obtain ⟨z, hi, hzs⟩ := T.info
  obtain ⟨i, hi1, hz0, hz1, hz2⟩ := info_parts hi
  have hT := T.pos
  have hsm := T.small
  have hb : (n + 1) * bytes ≤ 140737488355328 := Nat.le_trans (Nat.mul_le_mul (show n + 1 ≤ 1000001 by omega) hsm) (by decide)
  obtain ⟨v', w', hr, h2, h3, _, h5⟩ := run_append_own_at (P := Tryz.prog) (wr.alloc (.cells news.toArray e)) base t ty e i z size bytes T.und hi1 hz0 hz1 hz2 hzs T.pos v n xs
    (own_fr (S := fun _ => False) hown ((Fr.refl _ wr).alloc _) (fun _ _ x => x)) ⟨wr.heap.size, 0, none⟩ 1 1 news (by omega) (fun j u hu => by
      rw [add_plain, Nat.zero_add, (Box.new wr e news.toArray).cell j]
      simpa using hu) h1 (by unfold maxLen; omega) hb (by simp; omega)
  refine ⟨v', w', hr, Lib.hid ⟨h2, ?_, ?_, own_form h2 |>.imp fun _ ⟨c, h, _⟩ => ⟨c, h⟩⟩⟩
  · exact ((Fr.refl (fun b => v.ownBlock = some b) wr).alloc _).trans (Fr.of_grown h3 fun _ _ e => e)
  · rcases h5 with h5 | h5
    · exact .inl h5
    · exact .inr ⟨_, h5, by simp⟩

theorem wpList_of_append {P : Program} {ops : Array Oper} {rest : List Oper} {o : Oper} {a : Act} {w : World} {Q : Exit → Act → World → Prop} {t t2 : TypeId} {v u v' : Value} {w' : World}
    (hr : (Builtin.append_ #[t, t2] o.type #[v, u]).run P w = .ok v' w') (hgd : o.guard = none) (s x : Operand)
    (ho : o.op = .call { callee := .builtin .append, args := #[s, x], argTypes := #[t, t2] }) (hs : a.eval s = v) (hx : a.eval x = u)
    (h : wpList P ops Q rest (a.put o.dst v') w') : wpList P ops Q (o :: rest) a w := by
  refine wpList_plain hgd fun K hK => ?_
  unfold Oper.wp execOp
  simp only [ho, resolve, invoke, builtin, Sem.run_bind, Sem.run_pure, Result.andThen_ok, List.map_toArray, List.map_cons, List.map_nil, hs, hx, hr]
  exact hK _ _ h

theorem slFun : SlT 29 61 2 24 := ⟨Tryz.underlying29, ⟨.agg #[.string ⟨#[]⟩, .int .i64 0], by kernel_rfl, rfl⟩, by decide, by decide⟩

set_option maxRecDepth 100000 in
set_option maxHeartbeats 2000000 in
theorem called_any (l : List (ByteArray × Int × Int)) (hm : l.length ≤ 1000000) (v : Value) (w : World) (hv : PredsAt w v l) :
    Calls Tryz.prog 46 #[v] w fun e w' => ∃ v', e = .returned v' ∧ FunsAt w' v' (l.map called) ∧ Below w.heap.size w w' := by
  obtain ⟨A, c, rfl⟩ := CellsAt.form hv
  have HV := Lib.hid hv
  have HNIL : Hid (w.ownsRow w.heap.size 61 2 (.slice none 0 0) 0 []) := Lib.hid ⟨rfl, .inl ⟨rfl, rfl⟩⟩
  clear hv
  go_enter Tryz.func46, Tryz.ntmps46
  go_wp2
  go_loopw [3, 8] (fun s i wr => ∃ (k : Nat) (vs : Value), k ≤ l.length ∧ i = .int .i64 k ∧ vs = s ∧ Hid (wr.ownsRow w.heap.size 61 2 vs k (((l.take k).map called).flatMap funC)) ∧ Hid (Below w.heap.size w wr)) (fun _ i _ => l.length - (intOf i).toNat)
  case atStart => exact ⟨0, _, by omega, rfl, rfl, HNIL, Lib.hid (Below.refl _ w)⟩
  case round =>
    obtain ⟨k, vs, hk, rfl, rfl, HO, HB⟩ := hrel
    by_cases hlt : k < l.length
    · obtain ⟨b, off, rfl, hb, hc0, hc1, hc2⟩ := predCell HV.out k hlt
      have d0 := (HB.out.cell (p := ⟨b, off + k * 3, none⟩) hb).trans hc0
      have d1 := (HB.out.cell (p := ⟨b, off + k * 3 + 1, none⟩) hb).trans hc1
      have d2 := (HB.out.cell (p := ⟨b, off + k * 3 + 2, none⟩) hb).trans hc2
      have HT : Hid (((l.take (k + 1)).map called).flatMap funC = ((l.take k).map called).flatMap funC ++ [.string l[k].1, .int .i64 l[k].2.1]) := Lib.hid (by
        rw [List.take_succ_eq_append_getElem hlt, List.map_append, List.flatMap_append]
        rfl)
      clear hc0 hc1 hc2
      generalize l[k].1 = s at d0 HT
      generalize l[k].2.1 = n at d1 HT
      generalize l[k].2.2 = m at d2
      have HSZ := Lib.hid HB.out.size
      obtain ⟨v7, w7, hr7, HA7⟩ := app_one slFun (own_fr (S := fun _ => False) HO.out ((Fr.refl _ wr).alloc (.cells #[.string s, .int .i64 n, .int .i64 m] 64)) (fun _ _ x => x)) [.string s, .int .i64 n] rfl (by intro u hu; simp only [List.mem_cons, List.not_mem_nil, or_false] at hu; rcases hu with rfl | rfl <;> rfl) (by omega) (by have := HSZ.out; simp; omega) 29
      have HB7 : Hid (Below w.heap.size w w7) := Lib.hid (HB.out.trans (((Below.refl w.heap.size wr).alloc HSZ.out _).trans (HA7.out.below (own_fr (S := fun _ => False) HO.out ((Fr.refl _ wr).alloc _) (fun _ _ x => x)) (by have := HSZ.out; simp; omega))))
      have HO7 : Hid (w7.ownsRow w.heap.size 61 2 v7 (k + 1) (((l.take (k + 1)).map called).flatMap funC)) := Lib.hid (by rw [HT.out]; exact HA7.out.own)
      simp only [World.size_alloc] at hr7
      have HR := Lib.hid hr7
      clear hr7
      go_wp2_with (at_builtin; refine wpList_of_append HR.out rfl _ _ rfl rfl rfl ?_)
      go_roundw
      case rel => exact ⟨k + 1, _, by omega, by go_num, rfl, HO7, HB7⟩
      case measure => simp [intOf]; omega
    · obtain rfl : k = l.length := by omega
      have HF : Hid (FunsAt wr vs (l.map called)) := Lib.hid (by
        have h := CellsAt.of_own HO.out (by decide)
        rw [List.take_length] at h
        unfold FunsAt
        rw [List.length_map]
        exact h)
      go_wp2
      go_ret
      exact ⟨_, rfl, HF.out, HB.out⟩

end Go.Proofs.YtlmbiafloiompaaGreatDoor
