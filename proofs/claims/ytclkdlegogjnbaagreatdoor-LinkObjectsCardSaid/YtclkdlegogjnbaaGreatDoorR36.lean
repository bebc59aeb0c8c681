/-
 told of layer 10's law. Condition: the tables are as they are laid.
-/
import Derived.Test.YtclkdlegogjnbaaGreatDoorR34
import Derived.Test.YtclkdlegogjnbaaGreatDoorR35
namespace Go.Proofs.YtclkdlegogjnbaaGreatDoor
open Go Go.RowKit Go.WideShapes Go.ChangeShapes
set_option linter.unusedVariables false
set_option linter.unusedSimpArgs false
theorem obs_new (w : World) (qs : List (Value × Value × Value × Value)) (l : List Ob) (hl : qs.length = l.length) (h : ∀ k (hk : k < l.length), ObAt w (qs[k]'(by omega)).1 (qs[k]'(by omega)).2.1 (qs[k]'(by omega)).2.2.1 (qs[k]'(by omega)).2.2.2 l[k]) (c : Nat) :
  ObsAt (w.alloc (.cells (qs.flatMap obC).toArray 39)) (.slice (some ⟨w.heap.size, 0, none⟩) l.length c) qs l := by
 have hx := Box.new w 39 (qs.flatMap obC).toArray
 exact ⟨hl, .inr ⟨w.heap.size, 0, c, rfl, hx.lt, fun k u hk => by rw [Nat.zero_add, hx.cell k]; simpa using hk⟩, fun k hk => (h k hk).below (alloc_below w _)⟩
def toldLA : List ByteArray := [⟨#[112, 114, 101, 100, 32, 112, 47, 48]⟩, ⟨#[101, 120, 101, 99, 117, 116, 101, 32, 113, 47, 48]⟩]
def toldLB : List ByteArray := [⟨#[112, 114, 101, 100, 32, 113, 47, 48]⟩, ⟨#[112, 114, 111, 99, 101, 101, 100]⟩]
def toldOA : Ob := ⟨[], [], [(⟨#[112]⟩, 0, 0), (⟨#[113]⟩, 0, 65535)], [(18, 1, 0, 0, 0)]⟩
def toldOB : Ob := ⟨[], [], [(⟨#[113]⟩, 0, 0)], [(19, 0, 0, 0, 0)]⟩
def toldOC : Ob := ⟨[], [], [(⟨#[112]⟩, 0, 0), (⟨#[113]⟩, 0, 1)], [(18, 1, 0, 0, 0), (19, 0, 0, 0, 0)]⟩
theorem toldLA_is : asmOf (toldLA.map (·.data.toList)) = (toldOA, 0, -1) := by decide +kernel
theorem toldLB_is : asmOf (toldLB.map (·.data.toList)) = (toldOB, 0, -1) := by decide +kernel
theorem toldLC_is : linkP [toldOA, toldOB] = (toldOC, 0, -1) := by decide +kernel
theorem toldLD_is : linkP [toldOA] = (emptyOb, 12, 0) := by decide +kernel
theorem toldLE_is : linkP [toldOB, toldOA, toldOB] = (emptyOb, 11, 2) := by decide +kernel
theorem told_wf (o : Ob) (h1 : ∀ s ∈ o.atoms, s.size ≤ 100) (h2 : ∀ f ∈ o.funs, f.1.size ≤ 100) (h3 : ∀ p ∈ o.preds, p.1.size ≤ 100) (h4 : o.atoms.length ≤ 1000 ∧ o.funs.length ≤ 1000 ∧ o.preds.length ≤ 1000 ∧ o.code.length ≤ 1000) : ObWf o := by
 have hm : 100 ≤ maxLen := by decide
 exact ⟨fun s hs => Nat.le_trans (h1 s hs) hm, fun s hs => Nat.le_trans (h2 s hs) hm, fun s hs => Nat.le_trans (h3 s hs) hm, by omega, by omega, by omega, by omega⟩
theorem toldOA_wf : ObWf toldOA := told_wf _ (by decide) (by decide) (by decide) (by decide)
theorem toldOB_wf : ObWf toldOB := told_wf _ (by decide) (by decide) (by decide) (by decide)
set_option maxRecDepth 100000 in
set_option maxHeartbeats 32000000 in
theorem told10_any {B : Nat} (w : World) (hp : LaidC B w) :
  Calls Tryz.prog 7 #[] w fun e w' => e = .returned (.bool true) ∧ Below w.heap.size w w' := by
 have HP := Lib.hid hp
 have HPA := Lib.hid (fun (W : World) v (h : LaidC B W) (hv : AtomsAt W v toldLA) => program_any pred_keeps toldLA (by decide) (by decide) v W h hv)
 have HPB := Lib.hid (fun (W : World) v (h : LaidC B W) (hv : AtomsAt W v toldLB) => program_any pred_keeps toldLB (by decide) (by decide) v W h hv)
 have HOC := Lib.hid (fun (W : World) qs v (h : LaidC B W) (hv : ObsAt W v qs [toldOA, toldOB]) => objects_any [toldOA, toldOB] (by intro x hx; simp only [List.mem_cons, List.not_mem_nil, or_false] at hx; rcases hx with rfl | rfl; exact toldOA_wf; exact toldOB_wf) (by decide) qs v W h.names (fun W' hb => (h.up hb).names) hv)
 have HOD := Lib.hid (fun (W : World) qs v (h : LaidC B W) (hv : ObsAt W v qs [toldOA]) => objects_any [toldOA] (by intro x hx; simp only [List.mem_cons, List.not_mem_nil, or_false] at hx; subst hx; exact toldOA_wf) (by decide) qs v W h.names (fun W' hb => (h.up hb).names) hv)
 have HOE := Lib.hid (fun (W : World) qs v (h : LaidC B W) (hv : ObsAt W v qs [toldOB, toldOA, toldOB]) => objects_any [toldOB, toldOA, toldOB] (by intro x hx; simp only [List.mem_cons, List.not_mem_nil, or_false] at hx; rcases hx with rfl | rfl | rfl; exact toldOB_wf; exact toldOA_wf; exact toldOB_wf) (by decide) qs v W h.names (fun W' hb => (h.up hb).names) hv)
 rw [toldLA_is] at HPA
 rw [toldLB_is] at HPB
 rw [toldLC_is] at HOC
 rw [toldLD_is] at HOD
 rw [toldLE_is] at HOE
 unfold AsmW at HPA HPB HOC HOD HOE
 clear hp
 go_enter Tryz.func7, Tryz.ntmps7
 have HBw1 := Lib.hid ((Below.refl w.heap.size w).alloc (Below.refl w.heap.size w).size (.cells #[.string ⟨#[112, 114, 101, 100, 32, 112, 47, 48]⟩, .string ⟨#[101, 120, 101, 99, 117, 116, 101, 32, 113, 47, 48]⟩] 9))
 have hxw1 := Box.new w 9 #[.string ⟨#[112, 114, 101, 100, 32, 112, 47, 48]⟩, .string ⟨#[101, 120, 101, 99, 117, 116, 101, 32, 113, 47, 48]⟩]
 have HATA : Hid (AtomsAt (w.alloc (.cells #[.string ⟨#[112, 114, 101, 100, 32, 112, 47, 48]⟩, .string ⟨#[101, 120, 101, 99, 117, 116, 101, 32, 113, 47, 48]⟩] 9)) (.slice (some ⟨w.heap.size, 0, none⟩) 2 2) toldLA) := Lib.hid (.inr ⟨_, 0, 2, rfl, hxw1.lt, fun k u hk => by rw [Nat.zero_add, hxw1.cell k]; simpa [toldLA] using hk⟩)
 have HLPA := Lib.hid (HP.out.up HBw1.out)
 clear hxw1
 go_upto_region 2 with (go_at_call 20; refine (HPA.out _ _ HLPA.out HATA.out).mono ?_; rintro e w2 ⟨va, vf, vp, vc, rfl, ho, hb⟩; obtain ⟨A1, a1, hva⟩ := ho.at_.atoms.form; obtain ⟨A2, a2, hvf⟩ := ho.at_.funs.form; obtain ⟨A3, a3, hvp⟩ := ho.at_.preds.form; obtain ⟨A4, a4, hvc⟩ := ho.at_.code.form; simp only [toldOA, List.length_nil, List.length_cons, Nat.zero_add, Nat.reduceAdd] at hva hvf hvp hvc; subst hva hvf hvp hvc; have HOA := Lib.hid ho.at_; have HBw2 := Lib.hid (HBw1.out.trans (hb.mono HBw1.out.size)); clear ho hb)
 have HBw3 := Lib.hid (HBw2.out.alloc HBw2.out.size (.cells #[.slice A1 0 a1, .slice A2 0 a2, .slice A3 2 a3, .slice A4 1 a4] 39))
 have XA := Lib.hid (Box.new w2 39 #[.slice A1 0 a1, .slice A2 0 a2, .slice A3 2 a3, .slice A4 1 a4])
 have OA := Lib.hid (HOA.out.below (alloc_below w2 (.cells #[.slice A1 0 a1, .slice A2 0 a2, .slice A3 2 a3, .slice A4 1 a4] 39)))
 obtain ⟨w3, hw⟩ : ∃ w3, w2.alloc (.cells #[.slice A1 0 a1, .slice A2 0 a2, .slice A3 2 a3, .slice A4 1 a4] 39) = w3 := ⟨_, rfl⟩
 obtain ⟨gA, hg⟩ : ∃ gA, w2.heap.size = gA := ⟨_, rfl⟩
 rw [hw] at HBw3 XA OA ⊢
 rw [hg] at XA ⊢
 clear hw hg HATA HLPA HPA HOA HBw1 HBw2
 have HBw4 := Lib.hid (HBw3.out.alloc HBw3.out.size (.cells #[.string ⟨#[112, 114, 101, 100, 32, 113, 47, 48]⟩, .string ⟨#[112, 114, 111, 99, 101, 101, 100]⟩] 9))
 have hxw4 := Box.new w3 9 #[.string ⟨#[112, 114, 101, 100, 32, 113, 47, 48]⟩, .string ⟨#[112, 114, 111, 99, 101, 101, 100]⟩]
 have HATB : Hid (AtomsAt (w3.alloc (.cells #[.string ⟨#[112, 114, 101, 100, 32, 113, 47, 48]⟩, .string ⟨#[112, 114, 111, 99, 101, 101, 100]⟩] 9)) (.slice (some ⟨w3.heap.size, 0, none⟩) 2 2) toldLB) := Lib.hid (.inr ⟨_, 0, 2, rfl, hxw4.lt, fun k u hk => by rw [Nat.zero_add, hxw4.cell k]; simpa [toldLB] using hk⟩)
 have HLPB := Lib.hid (HP.out.up HBw4.out)
 clear hxw4
 have XAw4 := Lib.hid (XA.out.alloc (.cells #[.string ⟨#[112, 114, 101, 100, 32, 113, 47, 48]⟩, .string ⟨#[112, 114, 111, 99, 101, 101, 100]⟩] 9))
 have hbal := alloc_below w3 (.cells #[.string ⟨#[112, 114, 101, 100, 32, 113, 47, 48]⟩, .string ⟨#[112, 114, 111, 99, 101, 101, 100]⟩] 9)
 go_upto_region 3 with (go_at_call 20; refine (HPB.out _ _ HLPB.out HATB.out).mono ?_; rintro e w5 ⟨va, vf, vp, vc, rfl, ho, hb⟩; obtain ⟨B1, b1, hva⟩ := ho.at_.atoms.form; obtain ⟨B2, b2, hvf⟩ := ho.at_.funs.form; obtain ⟨B3, b3, hvp⟩ := ho.at_.preds.form; obtain ⟨B4, b4, hvc⟩ := ho.at_.code.form; simp only [toldOB, List.length_nil, List.length_cons, Nat.zero_add, Nat.reduceAdd] at hva hvf hvp hvc; subst hva hvf hvp hvc; have HOB := Lib.hid ho.at_; have HBw5 := Lib.hid (HBw4.out.trans (hb.mono HBw4.out.size)); have XAw5 := Lib.hid (XAw4.out.below hb XAw4.out.lt); have OAw5 := Lib.hid (OA.out.below (hbal.trans (hb.mono hbal.size))); clear ho hb)
 have HBw6 := Lib.hid (HBw5.out.alloc HBw5.out.size (.cells #[.slice B1 0 b1, .slice B2 0 b2, .slice B3 1 b3, .slice B4 1 b4] 39))
 have XB := Lib.hid (Box.new w5 39 #[.slice B1 0 b1, .slice B2 0 b2, .slice B3 1 b3, .slice B4 1 b4])
 have OB := Lib.hid (HOB.out.below (alloc_below w5 (.cells #[.slice B1 0 b1, .slice B2 0 b2, .slice B3 1 b3, .slice B4 1 b4] 39)))
 have XA := Lib.hid (XAw5.out.alloc (.cells #[.slice B1 0 b1, .slice B2 0 b2, .slice B3 1 b3, .slice B4 1 b4] 39))
 have OA := Lib.hid (OAw5.out.below (alloc_below w5 (.cells #[.slice B1 0 b1, .slice B2 0 b2, .slice B3 1 b3, .slice B4 1 b4] 39)))
 obtain ⟨w6, hw⟩ : ∃ w6, w5.alloc (.cells #[.slice B1 0 b1, .slice B2 0 b2, .slice B3 1 b3, .slice B4 1 b4] 39) = w6 := ⟨_, rfl⟩
 obtain ⟨gB, hg⟩ : ∃ gB, w5.heap.size = gB := ⟨_, rfl⟩
 rw [hw] at HBw6 XB OB XA OA ⊢
 rw [hg] at XB ⊢
 clear hw hg HATB HLPB HPB HOB HBw4 HBw5 hbal XAw4 XAw5 OAw5
 have ax0 := XA.out.cell 0
 have ax1 := XA.out.cell 1
 have ax2 := XA.out.cell 2
 have ax3 := XA.out.cell 3
 have bx0 := XB.out.cell 0
 have bx1 := XB.out.cell 1
 have bx2 := XB.out.cell 2
 have bx3 := XB.out.cell 3
 have HBw7 := Lib.hid (HBw6.out.alloc HBw6.out.size (.cells #[.slice A1 0 a1, .slice A2 0 a2, .slice A3 2 a3, .slice A4 1 a4, .slice B1 0 b1, .slice B2 0 b2, .slice B3 1 b3, .slice B4 1 b4] 39))
 have hbal := alloc_below w6 (.cells #[.slice A1 0 a1, .slice A2 0 a2, .slice A3 2 a3, .slice A4 1 a4, .slice B1 0 b1, .slice B2 0 b2, .slice B3 1 b3, .slice B4 1 b4] 39)
 have HQC : Hid (ObsAt (w6.alloc (.cells #[.slice A1 0 a1, .slice A2 0 a2, .slice A3 2 a3, .slice A4 1 a4, .slice B1 0 b1, .slice B2 0 b2, .slice B3 1 b3, .slice B4 1 b4] 39)) (.slice (some ⟨w6.heap.size, 0, none⟩) 2 2) [(.slice A1 0 a1, .slice A2 0 a2, .slice A3 2 a3, .slice A4 1 a4), (.slice B1 0 b1, .slice B2 0 b2, .slice B3 1 b3, .slice B4 1 b4)] [toldOA, toldOB]) := Lib.hid (obs_new w6 [(.slice A1 0 a1, .slice A2 0 a2, .slice A3 2 a3, .slice A4 1 a4), (.slice B1 0 b1, .slice B2 0 b2, .slice B3 1 b3, .slice B4 1 b4)] [toldOA, toldOB] rfl (fun k hk => by
  match k, hk with
  | 0, _ => exact OA.out
  | 1, _ => exact OB.out
  | k + 2, h => exact absurd h (by simp)) 2)
 have HLPC := Lib.hid (HP.out.up HBw7.out)
 go_upto_region 4 with (go_at_call 9; refine (HOC.out _ _ _ HLPC.out HQC.out).mono ?_; rintro e w8 ⟨va, vf, vp, vc, rfl, ho, hb⟩; obtain ⟨C1, c1, hva⟩ := ho.at_.atoms.form; obtain ⟨C2, c2, hvf⟩ := ho.at_.funs.form; obtain ⟨C3, c3, hvp⟩ := ho.at_.preds.form; obtain ⟨C4, c4, hvc⟩ := ho.at_.code.form; simp only [toldOC, List.length_nil, List.length_cons, Nat.zero_add, Nat.reduceAdd] at hva hvf hvp hvc; subst hva hvf hvp hvc; have HBw8 := Lib.hid (HBw7.out.trans (hb.mono HBw7.out.size)); have XAw8 := Lib.hid (XA.out.below (hbal.trans (hb.mono hbal.size)) XA.out.lt); have OAw8 := Lib.hid (OA.out.below (hbal.trans (hb.mono hbal.size))); have XBw8 := Lib.hid (XB.out.below (hbal.trans (hb.mono hbal.size)) XB.out.lt); have OBw8 := Lib.hid (OB.out.below (hbal.trans (hb.mono hbal.size))); have HOC9 := Lib.hid ho.at_; clear ho hb)
 have HBw9 := Lib.hid (HBw8.out.alloc HBw8.out.size (.cells #[.slice C1 0 c1, .slice C2 0 c2, .slice C3 2 c3, .slice C4 2 c4] 39))
 have XC := Lib.hid (Box.new w8 39 #[.slice C1 0 c1, .slice C2 0 c2, .slice C3 2 c3, .slice C4 2 c4])
 have OC := Lib.hid (HOC9.out.below (alloc_below w8 (.cells #[.slice C1 0 c1, .slice C2 0 c2, .slice C3 2 c3, .slice C4 2 c4] 39)))
 have XA := Lib.hid (XAw8.out.alloc (.cells #[.slice C1 0 c1, .slice C2 0 c2, .slice C3 2 c3, .slice C4 2 c4] 39))
 have OA := Lib.hid (OAw8.out.below (alloc_below w8 (.cells #[.slice C1 0 c1, .slice C2 0 c2, .slice C3 2 c3, .slice C4 2 c4] 39)))
 have XB := Lib.hid (XBw8.out.alloc (.cells #[.slice C1 0 c1, .slice C2 0 c2, .slice C3 2 c3, .slice C4 2 c4] 39))
 have OB := Lib.hid (OBw8.out.below (alloc_below w8 (.cells #[.slice C1 0 c1, .slice C2 0 c2, .slice C3 2 c3, .slice C4 2 c4] 39)))
 obtain ⟨w9, hw⟩ : ∃ w9, w8.alloc (.cells #[.slice C1 0 c1, .slice C2 0 c2, .slice C3 2 c3, .slice C4 2 c4] 39) = w9 := ⟨_, rfl⟩
 obtain ⟨gC, hg⟩ : ∃ gC, w8.heap.size = gC := ⟨_, rfl⟩
 rw [hw] at HBw9 XC OC XA OA XB OB ⊢
 rw [hg] at XC ⊢
 clear hw hg HQC HLPC HOC HOC9 HBw7 HBw8 hbal XAw8 OAw8 XBw8 OBw8 ax0 ax1 ax2 ax3 bx0 bx1 bx2 bx3
 have ax0 := XA.out.cell 0
 have ax1 := XA.out.cell 1
 have ax2 := XA.out.cell 2
 have ax3 := XA.out.cell 3
 have HBw10 := Lib.hid (HBw9.out.alloc HBw9.out.size (.cells #[.slice A1 0 a1, .slice A2 0 a2, .slice A3 2 a3, .slice A4 1 a4] 39))
 have hbal := alloc_below w9 (.cells #[.slice A1 0 a1, .slice A2 0 a2, .slice A3 2 a3, .slice A4 1 a4] 39)
 have HQD : Hid (ObsAt (w9.alloc (.cells #[.slice A1 0 a1, .slice A2 0 a2, .slice A3 2 a3, .slice A4 1 a4] 39)) (.slice (some ⟨w9.heap.size, 0, none⟩) 1 1) [(.slice A1 0 a1, .slice A2 0 a2, .slice A3 2 a3, .slice A4 1 a4)] [toldOA]) := Lib.hid (obs_new w9 [(.slice A1 0 a1, .slice A2 0 a2, .slice A3 2 a3, .slice A4 1 a4)] [toldOA] rfl (fun k hk => by
  match k, hk with
  | 0, _ => exact OA.out
  | k + 1, h => exact absurd h (by simp)) 1)
 have HLPD := Lib.hid (HP.out.up HBw10.out)
 go_upto_region 5 with (go_at_call 9; refine (HOD.out _ _ _ HLPD.out HQD.out).mono ?_; rintro e w11 ⟨va, vf, vp, vc, rfl, ho, hb⟩; obtain ⟨D1, d1, hva⟩ := ho.at_.atoms.form; obtain ⟨D2, d2, hvf⟩ := ho.at_.funs.form; obtain ⟨D3, d3, hvp⟩ := ho.at_.preds.form; obtain ⟨D4, d4, hvc⟩ := ho.at_.code.form; simp only [emptyOb, List.length_nil, List.length_cons, Nat.zero_add, Nat.reduceAdd] at hva hvf hvp hvc; subst hva hvf hvp hvc; have HBw11 := Lib.hid (HBw10.out.trans (hb.mono HBw10.out.size)); have XAw11 := Lib.hid (XA.out.below (hbal.trans (hb.mono hbal.size)) XA.out.lt); have OAw11 := Lib.hid (OA.out.below (hbal.trans (hb.mono hbal.size))); have XBw11 := Lib.hid (XB.out.below (hbal.trans (hb.mono hbal.size)) XB.out.lt); have OBw11 := Lib.hid (OB.out.below (hbal.trans (hb.mono hbal.size))); have XCw11 := Lib.hid (XC.out.below (hbal.trans (hb.mono hbal.size)) XC.out.lt); have OCw11 := Lib.hid (OC.out.below (hbal.trans (hb.mono hbal.size))); have HOD9 := Lib.hid ho.at_; clear ho hb)
 have HBw12 := Lib.hid (HBw11.out.alloc HBw11.out.size (.cells #[.slice D1 0 d1, .slice D2 0 d2, .slice D3 0 d3, .slice D4 0 d4] 39))
 have XD := Lib.hid (Box.new w11 39 #[.slice D1 0 d1, .slice D2 0 d2, .slice D3 0 d3, .slice D4 0 d4])
 have OD := Lib.hid (HOD9.out.below (alloc_below w11 (.cells #[.slice D1 0 d1, .slice D2 0 d2, .slice D3 0 d3, .slice D4 0 d4] 39)))
 have XA := Lib.hid (XAw11.out.alloc (.cells #[.slice D1 0 d1, .slice D2 0 d2, .slice D3 0 d3, .slice D4 0 d4] 39))
 have OA := Lib.hid (OAw11.out.below (alloc_below w11 (.cells #[.slice D1 0 d1, .slice D2 0 d2, .slice D3 0 d3, .slice D4 0 d4] 39)))
 have XB := Lib.hid (XBw11.out.alloc (.cells #[.slice D1 0 d1, .slice D2 0 d2, .slice D3 0 d3, .slice D4 0 d4] 39))
 have OB := Lib.hid (OBw11.out.below (alloc_below w11 (.cells #[.slice D1 0 d1, .slice D2 0 d2, .slice D3 0 d3, .slice D4 0 d4] 39)))
 have XC := Lib.hid (XCw11.out.alloc (.cells #[.slice D1 0 d1, .slice D2 0 d2, .slice D3 0 d3, .slice D4 0 d4] 39))
 have OC := Lib.hid (OCw11.out.below (alloc_below w11 (.cells #[.slice D1 0 d1, .slice D2 0 d2, .slice D3 0 d3, .slice D4 0 d4] 39)))
 obtain ⟨w12, hw⟩ : ∃ w12, w11.alloc (.cells #[.slice D1 0 d1, .slice D2 0 d2, .slice D3 0 d3, .slice D4 0 d4] 39) = w12 := ⟨_, rfl⟩
 obtain ⟨gD, hg⟩ : ∃ gD, w11.heap.size = gD := ⟨_, rfl⟩
 rw [hw] at HBw12 XD OD XA OA XB OB XC OC ⊢
 rw [hg] at XD ⊢
 clear hw hg HQD HLPD HOD HOD9 HBw10 HBw11 hbal XAw11 OAw11 XBw11 OBw11 XCw11 OCw11 ax0 ax1 ax2 ax3
 have ax0 := XA.out.cell 0
 have ax1 := XA.out.cell 1
 have ax2 := XA.out.cell 2
 have ax3 := XA.out.cell 3
 have bx0 := XB.out.cell 0
 have bx1 := XB.out.cell 1
 have bx2 := XB.out.cell 2
 have bx3 := XB.out.cell 3
 have HBw13 := Lib.hid (HBw12.out.alloc HBw12.out.size (.cells #[.slice B1 0 b1, .slice B2 0 b2, .slice B3 1 b3, .slice B4 1 b4, .slice A1 0 a1, .slice A2 0 a2, .slice A3 2 a3, .slice A4 1 a4, .slice B1 0 b1, .slice B2 0 b2, .slice B3 1 b3, .slice B4 1 b4] 39))
 have hbal := alloc_below w12 (.cells #[.slice B1 0 b1, .slice B2 0 b2, .slice B3 1 b3, .slice B4 1 b4, .slice A1 0 a1, .slice A2 0 a2, .slice A3 2 a3, .slice A4 1 a4, .slice B1 0 b1, .slice B2 0 b2, .slice B3 1 b3, .slice B4 1 b4] 39)
 have HQE : Hid (ObsAt (w12.alloc (.cells #[.slice B1 0 b1, .slice B2 0 b2, .slice B3 1 b3, .slice B4 1 b4, .slice A1 0 a1, .slice A2 0 a2, .slice A3 2 a3, .slice A4 1 a4, .slice B1 0 b1, .slice B2 0 b2, .slice B3 1 b3, .slice B4 1 b4] 39)) (.slice (some ⟨w12.heap.size, 0, none⟩) 3 3) [(.slice B1 0 b1, .slice B2 0 b2, .slice B3 1 b3, .slice B4 1 b4), (.slice A1 0 a1, .slice A2 0 a2, .slice A3 2 a3, .slice A4 1 a4), (.slice B1 0 b1, .slice B2 0 b2, .slice B3 1 b3, .slice B4 1 b4)] [toldOB, toldOA, toldOB]) := Lib.hid (obs_new w12 [(.slice B1 0 b1, .slice B2 0 b2, .slice B3 1 b3, .slice B4 1 b4), (.slice A1 0 a1, .slice A2 0 a2, .slice A3 2 a3, .slice A4 1 a4), (.slice B1 0 b1, .slice B2 0 b2, .slice B3 1 b3, .slice B4 1 b4)] [toldOB, toldOA, toldOB] rfl (fun k hk => by
  match k, hk with
  | 0, _ => exact OB.out
  | 1, _ => exact OA.out
  | 2, _ => exact OB.out
  | k + 3, h => exact absurd h (by simp)) 3)
 have HLPE := Lib.hid (HP.out.up HBw13.out)
 go_upto_region 6 with (go_at_call 9; refine (HOE.out _ _ _ HLPE.out HQE.out).mono ?_; rintro e w14 ⟨va, vf, vp, vc, rfl, ho, hb⟩; obtain ⟨E1, e1, hva⟩ := ho.at_.atoms.form; obtain ⟨E2, e2, hvf⟩ := ho.at_.funs.form; obtain ⟨E3, e3, hvp⟩ := ho.at_.preds.form; obtain ⟨E4, e4, hvc⟩ := ho.at_.code.form; simp only [emptyOb, List.length_nil, List.length_cons, Nat.zero_add, Nat.reduceAdd] at hva hvf hvp hvc; subst hva hvf hvp hvc; have HBw14 := Lib.hid (HBw13.out.trans (hb.mono HBw13.out.size)); have XAw14 := Lib.hid (XA.out.below (hbal.trans (hb.mono hbal.size)) XA.out.lt); have OAw14 := Lib.hid (OA.out.below (hbal.trans (hb.mono hbal.size))); have XBw14 := Lib.hid (XB.out.below (hbal.trans (hb.mono hbal.size)) XB.out.lt); have OBw14 := Lib.hid (OB.out.below (hbal.trans (hb.mono hbal.size))); have XCw14 := Lib.hid (XC.out.below (hbal.trans (hb.mono hbal.size)) XC.out.lt); have OCw14 := Lib.hid (OC.out.below (hbal.trans (hb.mono hbal.size))); have XDw14 := Lib.hid (XD.out.below (hbal.trans (hb.mono hbal.size)) XD.out.lt); have ODw14 := Lib.hid (OD.out.below (hbal.trans (hb.mono hbal.size))); have HOE9 := Lib.hid ho.at_; clear ho hb)
 have HBw15 := Lib.hid (HBw14.out.alloc HBw14.out.size (.cells #[.slice E1 0 e1, .slice E2 0 e2, .slice E3 0 e3, .slice E4 0 e4] 39))
 have XE := Lib.hid (Box.new w14 39 #[.slice E1 0 e1, .slice E2 0 e2, .slice E3 0 e3, .slice E4 0 e4])
 have OE := Lib.hid (HOE9.out.below (alloc_below w14 (.cells #[.slice E1 0 e1, .slice E2 0 e2, .slice E3 0 e3, .slice E4 0 e4] 39)))
 have XA := Lib.hid (XAw14.out.alloc (.cells #[.slice E1 0 e1, .slice E2 0 e2, .slice E3 0 e3, .slice E4 0 e4] 39))
 have OA := Lib.hid (OAw14.out.below (alloc_below w14 (.cells #[.slice E1 0 e1, .slice E2 0 e2, .slice E3 0 e3, .slice E4 0 e4] 39)))
 have XB := Lib.hid (XBw14.out.alloc (.cells #[.slice E1 0 e1, .slice E2 0 e2, .slice E3 0 e3, .slice E4 0 e4] 39))
 have OB := Lib.hid (OBw14.out.below (alloc_below w14 (.cells #[.slice E1 0 e1, .slice E2 0 e2, .slice E3 0 e3, .slice E4 0 e4] 39)))
 have XC := Lib.hid (XCw14.out.alloc (.cells #[.slice E1 0 e1, .slice E2 0 e2, .slice E3 0 e3, .slice E4 0 e4] 39))
 have OC := Lib.hid (OCw14.out.below (alloc_below w14 (.cells #[.slice E1 0 e1, .slice E2 0 e2, .slice E3 0 e3, .slice E4 0 e4] 39)))
 have XD := Lib.hid (XDw14.out.alloc (.cells #[.slice E1 0 e1, .slice E2 0 e2, .slice E3 0 e3, .slice E4 0 e4] 39))
 have OD := Lib.hid (ODw14.out.below (alloc_below w14 (.cells #[.slice E1 0 e1, .slice E2 0 e2, .slice E3 0 e3, .slice E4 0 e4] 39)))
 obtain ⟨w15, hw⟩ : ∃ w15, w14.alloc (.cells #[.slice E1 0 e1, .slice E2 0 e2, .slice E3 0 e3, .slice E4 0 e4] 39) = w15 := ⟨_, rfl⟩
 obtain ⟨gE, hg⟩ : ∃ gE, w14.heap.size = gE := ⟨_, rfl⟩
 rw [hw] at HBw15 XE OE XA OA XB OB XC OC XD OD ⊢
 rw [hg] at XE ⊢
 clear hw hg HQE HLPE HOE HOE9 HBw13 HBw14 hbal XAw14 OAw14 XBw14 OBw14 XCw14 OCw14 XDw14 ODw14 ax0 ax1 ax2 ax3 bx0 bx1 bx2 bx3
 have c0 := XC.out.cell 2
 have c1 := XC.out.cell 3
 obtain ⟨b, off, rfl, hb, _, _, hc2⟩ := predCell (l := toldOC.preds) (by have h := OC.out.preds; exact h) 1 (by decide)
 have d1 : w15.cell? ⟨b, off + 5, none⟩ = some (.int .i64 1) := hc2
 clear hb hc2
 go_wp2
 go_ret
 exact ⟨rfl, HBw15.out⟩
end Go.Proofs.YtclkdlegogjnbaaGreatDoor
