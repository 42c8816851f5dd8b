/- Plain facts for chapter 5: moved voices. -/
import Derived.Test.YtcgcnkddgihkpaaDoorPure5
import Derived.Test.YtcgcnkddgihkpaaDoorPure1
namespace Go.Proofs.YtcgcnkddgihkpaaDoor
set_option linter.unusedSimpArgs false
set_option linter.unusedVariables false
set_option maxRecDepth 8000

/-- the moved note. -/
def shX (st ha : Int) (x : Nt) : Nt := if x.r = true then x else { x with s := adP x.s x.o st % 7, a := adA x.s x.a x.o st ha, o := adP x.s x.o st / 7 }
/-- the note can be moved. -/
def shO (st ha : Int) (x : Nt) : Bool := x.r || adB x.s x.a x.o st ha
/-- the voice can be moved. -/
def shB (v : List Nt) (st ha : Int) : Bool := voB v && ivB st ha && v.all (shO st ha)
/-- what ShiftVoice hands back. -/
def shL (v : List Nt) (st ha : Int) : List Nt := if shB v st ha then v.map (shX st ha) else []
theorem shB_iff {v : List Nt} {st ha : Int} : shB v st ha = true ↔ voB v = true ∧ ivB st ha = true ∧ ∀ x ∈ v, shO st ha x = true := by simp [shB, and_assoc]

theorem shX_rest {st ha : Int} {x : Nt} (h : x.r = true) : shX st ha x = x := by rw [shX, if_pos h]
theorem shX_note {st ha : Int} {x : Nt} (h : x.r = false) : shX st ha x = { x with s := adP x.s x.o st % 7, a := adA x.s x.a x.o st ha, o := adP x.s x.o st / 7 } := by rw [shX, if_neg (by simp [h])]
theorem shX_r {st ha : Int} {x : Nt} : (shX st ha x).r = x.r := by unfold shX; split <;> rfl
theorem shX_y {st ha : Int} {x : Nt} : (shX st ha x).y = x.y := by unfold shX; split <;> rfl
theorem shX_t {st ha : Int} {x : Nt} : (shX st ha x).t = x.t := by unfold shX; split <;> rfl
theorem shO_note {st ha : Int} {x : Nt} (h : x.r = false) (ho : shO st ha x = true) : adB x.s x.a x.o st ha = true := by simpa [shO, h] using ho
theorem ad_pv {s a o st ha : Int} (h : adB s a o st ha = true) : pvB (adP s o st % 7) (adA s a o st ha) (adP s o st / 7) = true := by
  unfold adB at h
  simp only [Bool.and_eq_true] at h
  exact h.2
theorem sh_nv {st ha : Int} {x : Nt} (h : nvB x = true) (ho : shO st ha x = true) : nvB (shX st ha x) = true := by
  cases hr : x.r with
  | true => rw [shX_rest hr]; exact h
  | false =>
    obtain ⟨_, h2, _⟩ := nvB_iff.1 h
    have h3 := ad_pv (shO_note hr ho)
    rw [shX_note hr]
    exact nvB_iff.2 ⟨fun h => by simp [hr] at h, h2, h3⟩
theorem sh_link {st ha : Int} {x z : Nt} (h : nvB x = true) (hl : linkB x z = true) : linkB (shX st ha x) (shX st ha z) = true := by
  cases hy : x.y with
  | false => unfold linkB; rw [shX_y, hy]; rfl
  | true =>
    have hr := tie_rest h hy
    have h2 : z.r = false ∧ toneB x z = true := by simpa [linkB, hy] using hl
    obtain ⟨e1, e2, e3⟩ := toneB_iff.1 h2.2
    unfold linkB
    rw [shX_y, shX_r, h2.1, shX_note hr, shX_note h2.1]
    simp [toneB, e1, e2, e3]
theorem sh_tie : ∀ {v : List Nt} {st ha : Int}, tieB v = true → (∀ x ∈ v, shO st ha x = true) → tieB (v.map (shX st ha)) = true
  | [], _, _, _, _ => rfl
  | [x], st, ha, h, ho => by
    obtain ⟨h1, h2⟩ := tieB_one.1 h
    exact tieB_one.2 ⟨sh_nv h1 (ho x (by simp)), by rw [shX_y, h2]⟩
  | x :: z :: l, st, ha, h, ho => by
    obtain ⟨h1, h2, h3⟩ := tieB_cons.1 h
    exact tieB_cons.2 ⟨sh_nv h1 (ho x (by simp)), sh_link h1 h2, sh_tie (v := z :: l) h3 (fun u hu => ho u (by simp [hu]))⟩
theorem sh_sum (st ha : Int) : ∀ (v : List Nt), sumT (v.map (shX st ha)) = sumT v
  | [] => rfl
  | x :: l => by simp only [List.map_cons, sumT, shX_t, sh_sum st ha l]
theorem sh_vo {v : List Nt} {st ha : Int} (h : shB v st ha = true) : voB (v.map (shX st ha)) = true := by
  obtain ⟨h1, _, h3⟩ := shB_iff.1 h
  obtain ⟨g1, g2⟩ := voB_iff.1 h1
  exact voB_iff.2 ⟨sh_tie g1 h3, by simpa using g2⟩
/-- A way that was added, and its way back. -/
theorem ad_turn {s a o st ha x y z : Int} (hv : adB s a o st ha = true) (hx : adP s o st % 7 = x) (hy : adA s a o st ha = y) (hz : adP s o st / 7 = z) :
    adB x y z (-st) (-ha) = true ∧ adP x z (-st) % 7 = s ∧ adA x y z (-st) (-ha) = a ∧ adP x z (-st) / 7 = o := by
  obtain ⟨h1, h2, h3⟩ := ad_of hv hx hy hz
  obtain ⟨p1, p2, p3⟩ := of_back h1
  have := of_add p1
  rwa [p2, p3, h2, h3] at this
theorem sh_turn {st ha : Int} {x : Nt} (ho : shO st ha x = true) : shO (-st) (-ha) (shX st ha x) = true ∧ shX (-st) (-ha) (shX st ha x) = x := by
  cases hr : x.r with
  | true =>
    rw [shX_rest hr, shX_rest hr]
    exact ⟨by simp [shO, hr], rfl⟩
  | false =>
    obtain ⟨h1, h2, h3, h4⟩ := ad_turn (shO_note hr ho) rfl rfl rfl
    have hr2 : (shX st ha x).r = false := by rw [shX_r, hr]
    refine ⟨?_, ?_⟩
    · unfold shO
      rw [hr2, shX_note hr]
      simpa using h1
    · rw [shX_note hr2, shX_note hr]
      simp only [h2, h3, h4]
/-- moving back leads back. -/
theorem sh_back {v : List Nt} {st ha : Int} (h : shB v st ha = true) : shB (v.map (shX st ha)) (-st) (-ha) = true ∧ (v.map (shX st ha)).map (shX (-st) (-ha)) = v := by
  obtain ⟨h1, h2, h3⟩ := shB_iff.1 h
  refine ⟨shB_iff.2 ⟨sh_vo h, by rw [ivB_neg]; exact h2, fun u hu => ?_⟩, ?_⟩
  · obtain ⟨x, hx, rfl⟩ := List.mem_map.1 hu
    exact (sh_turn (h3 x hx)).1
  · rw [List.map_map]
    have : ∀ x ∈ v, (shX (-st) (-ha) ∘ shX st ha) x = x := fun x hx => (sh_turn (h3 x hx)).2
    rw [List.map_congr_left this, List.map_id']
/-- an octave, and back by a fifth, is a fourth. -/
theorem sh_two {v : List Nt} (h1 : shB v 7 12 = true) (h2 : shB (v.map (shX 7 12)) (-4) (-7) = true) : (v.map (shX 7 12)).map (shX (-4) (-7)) = v.map (shX 3 5) := by
  obtain ⟨_, _, g1⟩ := shB_iff.1 h1
  obtain ⟨_, _, g2⟩ := shB_iff.1 h2
  rw [List.map_map]
  refine List.map_congr_left fun x hx => ?_
  show shX (-4) (-7) (shX 7 12 x) = _
  have o1 := g1 x hx
  cases hr : x.r with
  | true => rw [shX_rest hr, shX_rest hr, shX_rest hr]
  | false =>
    have hr2 : (shX 7 12 x).r = false := by rw [shX_r, hr]
    have a1 := shO_note hr o1
    have v1 := ad_pv a1
    have k1 := (ad_of a1 rfl rfl rfl).2.2
    unfold adB at a1
    simp only [Bool.and_eq_true, decide_eq_true_eq] at a1
    have e : adP (adP x.s x.o 7 % 7) (adP x.s x.o 7 / 7) (-4) = adP x.s x.o 3 := by unfold adP; omega
    rw [shX_note hr2, shX_note hr, shX_note hr]
    simp only [e]
    congr 1
    unfold adA at k1 ⊢
    rw [e]
    omega
end Go.Proofs.YtcgcnkddgihkpaaDoor
