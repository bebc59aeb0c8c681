/-
  An object's bytes tell just this object (plain). No condition.
-/
import Derived.Test.YtfknoecgcoapcaaDoorObjTM
import Derived.Test.YtfknoecgcoapcaaDoorObjFM
namespace Go.Proofs.YtfknoecgcoapcaaDoor
open Go
set_option linter.unusedVariables false
set_option linter.unusedSimpArgs false

theorem takeR_app (a b : List Nat) {n : Nat} (h : a.length = n) : takeR n ⟨a ++ b, false⟩ = (a, ⟨b, false⟩) := by
  unfold takeR
  rw [if_neg (by simp; omega)]
  subst h
  simp
theorem numR_app (k x : Nat) (b : List Nat) (h : x < 256 ^ k) : numR k ⟨numL k x ++ b, false⟩ = (x, ⟨b, false⟩) := by
  unfold numR
  rw [takeR_app _ _ (numL_len k x)]
  simp only
  rw [valL_numL, Nat.mod_eq_of_lt h]
theorem strOf_strL (s : ByteArray) : strOf (strL s) = s := by
  unfold strOf strL
  rw [List.map_map]
  have e : (UInt8.ofNat ∘ UInt8.toNat) = id := by
    funext c
    simp
  rw [e, List.map_id]
theorem nameR_app (s : ByteArray) (b : List Nat) (h : s.size ≤ 255) : nameR ⟨nameL s ++ b, false⟩ = (s, ⟨b, false⟩) := by
  unfold nameR nameL
  rw [List.append_assoc, numR_app 1 s.size _ (by omega)]
  simp only
  rw [takeR_app _ _ (strL_len s)]
  simp only
  rw [strOf_strL]
theorem funR_app (f : ByteArray × Int) (b : List Nat) (h : f.1.size ≤ 255) (h1 : 0 ≤ f.2 ∧ f.2 ≤ 255) : funR ⟨funL f ++ b, false⟩ = (f, ⟨b, false⟩) := by
  unfold funR funL
  rw [List.append_assoc, nameR_app f.1 _ h]
  simp only
  rw [numR_app 1 _ _ (by omega)]
  simp only
  rw [show ((f.2.toNat : Nat) : Int) = f.2 by omega]
theorem predR_app (p : ByteArray × Int × Int) (b : List Nat) (h : p.1.size ≤ 255) (h1 : 0 ≤ p.2.1 ∧ p.2.1 ≤ 255) (h2 : 0 ≤ p.2.2 ∧ p.2.2 ≤ 65535) : predR ⟨predL p ++ b, false⟩ = (p, ⟨b, false⟩) := by
  unfold predR predL
  rw [List.append_assoc, List.append_assoc, nameR_app p.1 _ h]
  simp only
  rw [numR_app 1 _ _ (by omega)]
  simp only
  rw [numR_app 2 _ _ (by omega)]
  simp only
  rw [show ((p.2.1.toNat : Nat) : Int) = p.2.1 by omega, show ((p.2.2.toNat : Nat) : Int) = p.2.2 by omega]
theorem manyR_app {α : Type} (f : Rd → α × Rd) (g : α → List Nat) : ∀ (l : List α) (b : List Nat), (∀ a ∈ l, ∀ b, f ⟨g a ++ b, false⟩ = (a, ⟨b, false⟩)) → manyR f l.length ⟨l.flatMap g ++ b, false⟩ = (l, ⟨b, false⟩)
  | [], b, _ => rfl
  | a :: l, b, h => by
    rw [List.length_cons, List.flatMap_cons, List.append_assoc, manyR, h a (by simp)]
    simp only
    rw [manyR_app f g l b (fun x hx => h x (by simp [hx]))]
/-- May a number stand in as many bytes as its kind has? -/
def fits (k x : Int) : Prop := 0 ≤ x ∧ x.toNat < 256 ^ sizeK k
theorem argsR_app : ∀ (ks l : List Int) (b : List Nat), (∀ j, j < ks.length → fits (ks.getD j 0) (l.getD j 0)) → argsR ks ⟨argsL ks l ++ b, false⟩ = ((List.range ks.length).map (fun j => l.getD j 0), ⟨b, false⟩)
  | [], l, b, _ => rfl
  | k :: ks, l, b, h => by
    have h0 := h 0 (by simp)
    simp only [List.getD_cons_zero] at h0
    have hd : l.headD 0 = l.getD 0 0 := by cases l <;> rfl
    have ih := argsR_app ks l.tail b (fun j hj => by
      have := h (j + 1) (by simp; omega)
      rw [List.getD_cons_succ] at this
      have e : l.tail.getD j 0 = l.getD (j + 1) 0 := by cases l <;> simp
      rw [e]
      exact this)
    rw [argsL, argsR, List.append_assoc, hd, numR_app _ _ _ h0.2]
    simp only
    rw [ih]
    simp only [List.length_cons, List.range_succ_eq_map, List.map_cons, List.map_map]
    rw [show (((l.getD 0 0).toNat : Nat) : Int) = l.getD 0 0 by have := h0.1; omega]
    refine Prod.ext (List.cons_eq_cons.2 ⟨rfl, List.map_congr_left fun j _ => ?_⟩) rfl
    cases l <;> simp
theorem ops_26_only {op : Int} {k : Nat} (h : op = 26) (hk : k < 4) : (opsOf op).getD k 0 = 8 := by
  subst h
  match k, hk with
  | 0, _ => rfl
  | 1, _ => rfl
  | 2, _ => rfl
  | 3, _ => rfl
theorem arg_fits {op : Int} {args : List Int} (h : rightB op args = true) (k : Nat) (hk : k < 4) : fits ((opsOf op).getD k 0) (args.getD k 0) := by
  have hm := right_at h k hk
  have hb := may_bd hm
  refine ⟨hb.1, ?_⟩
  unfold sizeK
  by_cases h8 : (opsOf op).getD k 0 = 8
  · rw [if_pos h8]
    show _ < 65536
    omega
  · rw [if_neg h8]
    unfold mayB at hm
    rcases of_decide_eq_true hm with ⟨h26, _⟩ | ⟨_, h2⟩
    · exact absurd (ops_26_only h26 hk) h8
    · have : highOf ((opsOf op).getD k 0) ≤ 255 := by
        unfold highOf
        repeat' split
        all_goals omega
      show _ < 256
      omega
theorem arg_rest {op : Int} {args : List Int} (h : rightB op args = true) (k : Nat) (hk : k < 4) (hl : (opsOf op).length ≤ k) : args.getD k 0 = 0 := by
  have hm := right_at h k hk
  have e0 : (opsOf op).getD k 0 = 0 := by rw [List.getD_eq_getElem?_getD, List.getElem?_eq_none hl]; rfl
  rw [e0] at hm
  unfold mayB at hm
  rcases of_decide_eq_true hm with ⟨h26, _⟩ | h2
  · rw [ops_26_only h26 hk] at e0
    omega
  · generalize args.getD k 0 = x at h2 ⊢
    unfold lowOf highOf at h2
    simp at h2
    omega
theorem insR_app {a f p c : Nat} (i : Ins) (b : List Nat) (h : insErr a f p c i = 0) : insR ⟨insL i ++ b, false⟩ = some (i, ⟨b, false⟩) := by
  obtain ⟨h0, h26, hr, _⟩ := insErr_ne h
  unfold insR insL
  rw [List.append_assoc, numR_app 1 _ _ (by omega)]
  simp only
  rw [show ((i.1.toNat : Nat) : Int) = i.1 by omega, if_neg (by omega)]
  have ho := ops_few i.1
  rw [argsR_app (opsOf i.1) (argOf i) b (fun j hj => arg_fits hr j (by omega))]
  simp only
  congr 2
  have e : ∀ k, k < 4 → ((List.range (opsOf i.1).length).map (fun j => (argOf i).getD j 0)).getD k 0 = (argOf i).getD k 0 := fun k hk => by
    by_cases hl : k < (opsOf i.1).length
    · simp [List.getD_eq_getElem?_getD, hl]
    · rw [arg_rest hr k hk (by omega), List.getD_eq_getElem?_getD, List.getElem?_eq_none (by simp; omega)]
      rfl
  unfold insOf
  rw [e 0 (by omega), e 1 (by omega), e 2 (by omega), e 3 (by omega)]
  rfl
theorem codeR_app {a f p c : Nat} : ∀ (l : List Ins) (b : List Nat), (∀ i ∈ l, insErr a f p c i = 0) → codeR l.length ⟨l.flatMap insL ++ b, false⟩ = some (l, ⟨b, false⟩)
  | [], b, _ => rfl
  | i :: l, b, h => by
    rw [List.length_cons, List.flatMap_cons, List.append_assoc, codeR, insR_app i _ (h i (by simp))]
    simp only
    rw [codeR_app l b (fun x hx => h x (by simp [hx]))]
theorem magicR_app (b : List Nat) : ∀ m : List Nat, magicR m ⟨m ++ b, false⟩ = some ⟨b, false⟩
  | [] => rfl
  | m :: ms => by
    rw [magicR]
    have e : takeR 1 ⟨m :: ms ++ b, false⟩ = ([m], ⟨ms ++ b, false⟩) := takeR_app [m] (ms ++ b) rfl
    rw [e]
    simp only [true_or, if_true]
    exact magicR_app b ms

theorem object_back {o : Ob} (hc : checkOf o = 0) (b : List Nat) : objectR ⟨bodyL o ++ b, false⟩ = .ok (o, ⟨b, false⟩) := by
  have hk := ok_of hc
  have hla := hk.la
  have hlf := hk.lf
  have hlp := hk.lp
  have hlc := hk.lc
  unfold objectR bodyL headL
  simp only [List.append_assoc]
  rw [magicR_app]
  simp only
  rw [numR_app 2 o.atoms.length _ (by omega)]
  simp only
  rw [numR_app 2 o.funs.length _ (by omega)]
  simp only
  rw [numR_app 2 o.preds.length _ (by omega)]
  simp only
  rw [numR_app 2 o.code.length _ (by omega)]
  simp only
  rw [if_neg (by simp), show bigB o.atoms.length o.funs.length o.preds.length o.code.length = false by unfold bigB; simp; omega, if_neg (by simp)]
  rw [manyR_app nameR nameL o.atoms _ (fun s hs b => nameR_app s b (by have := (name_size (hk.atoms s hs)).2; omega))]
  simp only
  rw [manyR_app funR funL o.funs _ (fun f hf b => by
    have h := hk.funs f hf
    exact funR_app f b (by have := (name_size h.1).2; omega) (by omega))]
  simp only
  rw [manyR_app predR predL o.preds _ (fun p hp b => by
    have h := hk.preds p hp
    exact predR_app p b (by have := (name_size h.1).2; omega) (by omega) (by omega))]
  simp only
  rw [codeR_app o.code _ hk.code]
  simp only
  rw [if_neg (by simp)]
theorem decode_back {o : Ob} (hc : checkOf o = 0) : decodeOf (bytesL o) = (o, 0) := by
  have hcl : crcOf 0 (bodyL o) < 4294967296 := crcOf_lt (by omega) (bodyL_lt o)
  unfold decodeOf bytesL
  rw [object_back hc]
  simp only
  rw [if_neg (by simpa using hc), if_neg]
  unfold endErr
  have hl : (bodyL o ++ numL 4 (crcOf 0 (bodyL o))).length - 4 = (bodyL o).length := by rw [List.length_append, numL_len]; omega
  rw [hl, List.drop_left, List.take_left, valL_numL, Nat.mod_eq_of_lt (by simpa using hcl), numL_len]
  simp
theorem bytes_inj {o p : Ob} (ho : checkOf o = 0) (hp : checkOf p = 0) (h : bytesL o = bytesL p) : o = p := by
  have := decode_back ho
  rw [h, decode_back hp] at this
  injection this with h1 _
  exact h1.symm
theorem bytesL_lt (o : Ob) : ∀ c ∈ bytesL o, c < 256 := app_lt (bodyL_lt o) (numL_lt _ _)
theorem strOf_inj {l m : List Nat} (hl : ∀ c ∈ l, c < 256) (hm : ∀ c ∈ m, c < 256) (h : strOf l = strOf m) : l = m := by
  unfold strOf at h
  have h1 : l.map UInt8.ofNat = m.map UInt8.ofNat := by
    have := congrArg (fun b : ByteArray => b.data.toList) h
    simpa using this
  have H : ∀ l : List Nat, (∀ c ∈ l, c < 256) → (l.map UInt8.ofNat).map UInt8.toNat = l := fun l hl => by
    rw [List.map_map]
    have : l.map (UInt8.toNat ∘ UInt8.ofNat) = l.map id := List.map_congr_left fun c hc => by
      have := hl c hc
      simp [UInt8.toNat_ofNat']
      omega
    rw [this, List.map_id]
  rw [← H l hl, h1, H m hm]

open Go.RowKit Go.WideShapes Go.ChangeShapes in
theorem Strict.bysIn8 {w : World} {base : Nat} {v : Value} {l : List Nat} (h : Strict w base v l) : BysIn w v l := by
  have hb := Row.bys (.inl h)
  rcases h.2 with ⟨h0, h1⟩ | ⟨g, cap, cur, rfl, hb2, hg, h2, h3, _⟩
  · exact .inl ⟨List.length_eq_zero_iff.1 h1, h0⟩
  · refine .inr ⟨g, 0, cap, rfl, h2, by unfold maxLen at h3; omega, (Array.getElem?_eq_some_iff.1 hg).1, fun k hk => ?_⟩
    rw [Nat.zero_add, World.ownsRow.cellAt (g := g) h k (by omega)]
    simp [bysV, List.getD_eq_getElem?_getD, hk]

end Go.Proofs.YtfknoecgcoapcaaDoor
