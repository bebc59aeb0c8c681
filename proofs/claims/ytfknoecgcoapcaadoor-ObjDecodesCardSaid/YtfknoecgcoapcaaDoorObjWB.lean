/-
  The document's name: how many bytes, then the bytes. Conditions: a name of 1 to 255 bytes; rows of less than a million bytes.
-/
import Derived.Test.YtfknoecgcoapcaaDoorObjW
namespace Go.Proofs.YtfknoecgcoapcaaDoor
open Go Go.RowKit Go.WideShapes Go.ChangeShapes
set_option linter.unusedVariables false
set_option linter.unusedSimpArgs false

theorem Row.bin {w : World} {base : Nat} {v : Value} {l : List Nat} (h : Row w base v l) : Bin w v l := by
  rcases h with h | ⟨h0, g, cur, fz, rfl, hg, hh, hc⟩
  · exact h.bin
  · refine ⟨.inr ⟨g, 0, _, rfl, (Array.getElem?_eq_some_iff.1 hh).1, fun k u hk => ?_⟩, ?_⟩
    · rw [← hc, Array.getElem?_toList] at hk
      simp [World.cell?, hh, hk]
    · rintro k c h
      injection h with h1 h2 h3
      cases h1

set_option maxRecDepth 100000 in
set_option maxHeartbeats 4000000 in
theorem rname_any (s : ByteArray) (hs : s.size ≤ 255) (hs1 : 1 ≤ s.size) (l : List Nat) (hl : l.length ≤ 800000) (v : Value) (w : World) (hv : Bin w v l) :
    Calls Tryd.prog 28 #[v, .string s] w fun e w' => ∃ v', e = .returned v' ∧ Row w' w.heap.size v' (l ++ nameL s) ∧ Below w.heap.size w w' := by
  have hN := rnum_any 0 s.size l v w (by omega) (by omega) (by omega) hv
  rw [show (((0 + 1 : Nat)) : Int) = 1 from rfl] at hN
  have HN := Lib.hid hN
  have HAPP := Lib.hid (fun (w' : World) v' (h : Strict w' w.heap.size v' (l ++ numL (0 + 1) s.size)) (hb : Below w.heap.size w w') => app_str (.inl h) s (by omega) (by omega) (by rw [List.length_append, numL_len]; omega) hb.size 38)
  clear hv hN
  have h0 : ¬ 9223372036854775807 < s.size := by omega
  go_enter Tryd.func28, Tryd.ntmps28
  go_wp2_with (first
    | (go_at_call 27; refine HN.out.mono ?_; rintro e w5 ⟨v5, rfl, hs5, hb5⟩; obtain ⟨v6, w6, hr6, HG6⟩ := HAPP.out _ _ hs5 hb5; have HR := Lib.hid hr6; have HS5 := Lib.hid hs5; have HB5 := Lib.hid hb5; clear hr6 hs5 hb5)
    | (at_builtin; refine wpList_of_append HR.out rfl _ _ rfl rfl rfl ?_))
  go_ret
  exact ⟨_, rfl, by rw [nameL, ← List.append_assoc]; exact HG6.out.own, HB5.out.trans (HG6.out.below (.inl HS5.out) HB5.out.size)⟩

end Go.Proofs.YtfknoecgcoapcaaDoor
