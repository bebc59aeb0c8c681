/-
  Proved: 'Rows.CrcTurnsSaid': for every row of bytes, every place and every 32 bits the statement CrcTurns of the landed package crc returns true, and what came in reads as before. No condition beyond the row's own.
-/
import Derived.Test.YtgkldglknkeedaaRows
import Derived.Test.YtgkldglknkeedaaTurns
import Derived.OpenShut
import Derived.Deep.Slices
import Derived.Deep.Fields
import Derived.Carry
import Derived.WideShapes
namespace Go.Proofs.Ytgkldglknkeedaa
open Go.ChangeShapes Go.WideShapes Go.ChangeAt Go.RowKit Go.Deep
set_option linter.unusedVariables false

theorem ownTry : ownKnob Try.prog.godebug = none := by kernel_rfl
theorem laidOutTry : laidOutB Try.prog = true := by kernel_rfl
theorem readBys : Try.prog.readableRec 23 = true := by kernel_rfl
theorem rowBys : 23 < Try.prog.types.size := of_decide_eq_true (by kernel_rfl)
theorem cellsByte : Try.prog.cellsOf 5 = 1 := by kernel_rfl
theorem bytesOfByte : Try.prog.bytesOf 5 = 1 := by kernel_rfl

theorem nat_of_wf {z : Int} (h : (Lit.int .u8 z).wf = true) : z = ((z.toNat : Nat) : Int) ∧ z.toNat < 256 := by
  have : 0 ≤ z ∧ z ≤ 255 := by simpa [Lit.wf, IntKind.min, IntKind.max, IntKind.signed, IntKind.bits] using h
  omega

/-- What the reading of a row of bytes gives. -/
theorem bys_in {H : Type} {enc : TypeId × Value → H} {W : World} {fuel base : Nat} {spare : Nat → Bool} {held : Bool} {oa : Option Addr} {len cap : Nat} {x : DataW H × List MemPlace}
    (h : DataW.trod enc Try.prog W base spare held fuel 23 [.slice oa len cap] = some x) : len ≤ cap ∧ ∃ l : List Nat, l.length = len ∧ (∀ c ∈ l, c < 256) ∧ BysAt W (.slice oa len cap) l ∧ (0 < len → ∃ el sp, x.1 = .slice el sp ∧ len ≤ el.length + sp.length) := by
  rcases open_ints Try.underlying23 Try.underlying5 cellsByte h with ⟨hcs, hx⟩ | ⟨a, len', cap', zs, hcs, _, hl, hm, hz, hx, hcell, hwz⟩
  · simp only [List.cons.injEq, Value.slice.injEq, and_true] at hcs
    obtain ⟨rfl, rfl, rfl⟩ := hcs
    exact ⟨Nat.le_refl _, [], rfl, by simp, .inl ⟨rfl, _, _, rfl⟩, fun h => absurd h (by omega)⟩
  · simp only [List.cons.injEq, Value.slice.injEq, and_true] at hcs
    obtain ⟨rfl, rfl, rfl⟩ := hcs
    have hzl : len ≤ zs.length := by rw [hz]; split <;> omega
    refine ⟨hl, (zs.take len).map Int.toNat, by simp; omega, ?_, ?_, fun _ => ⟨_, _, by rw [hx], by simp [lits]; omega⟩⟩
    · intro c hc
      obtain ⟨z, hz1, rfl⟩ := List.mem_map.1 hc
      exact (nat_of_wf (hwz z (List.mem_of_mem_take hz1))).2
    · by_cases h0 : len = 0
      · subst h0
        exact .inl ⟨by simp, _, _, rfl⟩
      · obtain ⟨b, off, spot⟩ := a
        have hspot : spot = none := by simpa [Addr.add] using World.cell?_spot (hcell 0 (by omega))
        subst hspot
        have hlen : ((zs.take len).map Int.toNat).length = len := by simp; omega
        refine .inr ⟨b, off, cap, by rw [hlen], fun k hk => ?_⟩
        rw [hlen] at hk
        have h1 := hcell k (by omega)
        rw [add_plain] at h1
        rw [h1]
        have hk2 : k < zs.length := by omega
        have e1 : zs.getD k 0 = zs[k] := by rw [List.getD_eq_getElem?_getD, List.getElem?_eq_getElem hk2]; rfl
        have e2 : ((zs.take len).map Int.toNat).getD k 0 = zs[k].toNat := by
          rw [List.getD_eq_getElem?_getD, List.getElem?_map, List.getElem?_take, if_pos hk, List.getElem?_eq_getElem hk2]; rfl
        rw [e1, e2, ← (nat_of_wf (hwz _ (List.getElem_mem hk2))).1]

set_option maxRecDepth 100000 in
theorem turnsLifted (os : Os) (started : os.Started) (H : Type) (enc : TypeId × Value → H) :
    ReturnsInHanded {} Try.checked os 4 .any (Rows.crcTurnsSpec.pre6 enc Try.prog Try.f4 Rows.crcTurnsRow.domain false) (Rows.crcTurnsSpec.post enc Try.prog Try.f4 false true false false) := by
  refine returnsInHanded_of_change_sized (C := Try.checked) ownTry started (by kernel_rfl) Try.func4
    (ChangeSpec.witness6 (enc := enc) (C := Try.checked) false ⟨#[], #[.slice none 0 0, .int .i64 0, .int .u32 0], []⟩ 8 (by kernel_rfl) (by kernel_rfl) (by kernel_rfl) (by kernel_rfl)) ?_
  intro W base args ds gs before hval0 hW _ hsz0 _
  have hsz : (DataW.weightsEach Try.prog (Try.f4.params.toList ++ Rows.crcTurnsSpec.plain.varTypes Try.prog) (ds ++ gs)).all (· ≤ reachBytes) = true := hsz0
  clear hsz0
  have hval : ∀ (j : Nat) t v, Try.f4.params[j]? = some t → args[j]? = some v → Value.okWide Try.prog W .any base t v := hval0
  have hW' := hW
  have hold : ∀ x ∈ before, x.block < W.heap.size := fun x hx => hW.lt x hx
  obtain ⟨p, q, hA0, hV, rfl, hfz, hnd⟩ := hW
  have hA : DataW.TrodAll enc Try.prog W 0 (fun _ => true) true Try.f4.params.toList args.toList ds p := hA0
  rw [Try.params4] at hA hval hsz
  obtain ⟨v0, vs0, d0, ds0, p0, q0, hargs, rfl, rfl, h0, r0⟩ := trodAll_cons hA
  obtain ⟨v1, vs1, d1, ds1, p1, q1, rfl, rfl, rfl, h1, r1⟩ := trodAll_cons r0
  obtain ⟨v2, vs2, d2, ds2, p2, q2, rfl, rfl, rfl, h2, r2⟩ := trodAll_cons r1
  obtain ⟨rfl, rfl, rfl⟩ := trodAll_nil r2
  obtain rfl : args = #[v0, v1, v2] := by cases args; simp_all
  obtain ⟨rfl, rfl⟩ := trodVars_none hV
  obtain ⟨oa, len, cap, rfl⟩ := okWide_slice Try.underlying23 (hval 0 23 v0 rfl rfl)
  obtain ⟨a1, rfl, rfl, rfl, w1⟩ := open_int Try.underlying3 (hval 1 3 v1 rfl rfl) h1
  obtain ⟨a2, rfl, rfl, rfl, w2⟩ := open_int Try.underlying24 (hval 2 24 v2 rfl rfl) h2
  clear hA0 hval0
  obtain ⟨fuel, hf⟩ := id h0
  obtain ⟨hlc, l, hlen, hl, hby, hda⟩ := bys_in (by simpa [Value.cells] using hf)
  have hreach : l.length ≤ 140737488351232 := by
    by_cases h00 : 0 < len
    · obtain ⟨el, sp, hd, hel⟩ := hda h00
      have hd' : d0 = .slice el sp := hd
      subst hd'
      have := sized_slice hsz (j := 0) (t := 23) (e := 5) rfl rfl Try.underlying23
      rw [bytesOfByte] at this
      simp only [reachBytes] at this
      omega
    · omega
  have hin : ∀ x ∈ p0, x ∈ (p0 ++ ([] ++ ([] ++ []))) ++ [] := fun x hx => by simpa using hx
  refine (turns_any l hl (.slice oa len cap) a1 w1 a2 w2 hreach W hby).mono fun e W' ⟨he, hg⟩ => ?_
  subst he
  exact ⟨_, rfl, post_below (pa := p0 ++ ([] ++ ([] ++ []))) (pv := []) hW' (fun _ _ _ => (trodAll_cons_mk (shut_bool Try.underlying4 _) trodAll_mk0))
    (fun sp hsp => (trodAll_cons_mk (WideElems.Trod_stays laidOutTry readBys rowBys h0 (fun x hx => hg.same (hold x (hin x hx))) (fun x hx => hsp x (hin x hx))) (trodAll_cons_mk (shut_int Try.underlying3 w1) (trodAll_cons_mk (shut_int Try.underlying24 w2) trodAll_mk0)))) (fun _ _ => rfl) rfl
    hg (ok_one (by kernel_rfl) rfl (okWide_bool_mk Try.underlying4 _))⟩

theorem turnsOver : Rows.crcTurnsRow.holds Try.pinned (OpenSpec.ofChange Rows.crcTurnsSpec) :=
  OpenClaim.holds_of_wide 4 Try.f4 rfl rfl rfl rfl rfl rfl rfl ⟨rfl, rfl, rfl, rfl, rfl⟩ rfl rfl rfl rfl rfl (by kernel_rfl) Try.func4 (by kernel_rfl)
    (of_decide_eq_true (by kernel_rfl)) (by unfold Func.isWrapper; first | (rw [if_pos (by decide +kernel)]; kernel_rfl) | (rw [if_neg (by decide +kernel)]; exact ⟨rfl, rfl⟩))
    (fun os started H enc _ => turnsLifted os started H enc)

/-- The statement. -/
theorem crcTurns_holds : Rows.CrcTurnsSaid :=
  turnsOver

end Go.Proofs.Ytgkldglknkeedaa
