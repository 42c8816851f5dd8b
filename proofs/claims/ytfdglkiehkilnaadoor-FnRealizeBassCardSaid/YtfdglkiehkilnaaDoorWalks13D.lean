/- Chapter 13 in the program: the first chord that may follow; the library's slices.IndexFunc and slices.DeleteFunc over chords, with the function that asks for it. -/
import Derived.Test.YtfdglkiehkilnaaDoorWalks13O
import Derived.Test.YtfdglkiehkilnaaDoorWalks13B
import Derived.Lib.SliceRun
namespace Go.Proofs.YtfdglkiehkilnaaDoor
set_option linter.unusedSimpArgs false
set_option linter.unusedVariables false
set_option maxRecDepth 8000
open Go.RowKit Go.Joins

/-- The first chord that may follow, with its value. -/
noncomputable def fbE (l : List Pt) (es : List (Value × List Pt)) : Option (Value × List Pt) := es.find? fun c => wyB (some l) c.2
noncomputable def fbV (l : List Pt) (es : List (Value × List Pt)) : Value := ((fbE l es).map (·.1)).getD (.slice none 0 0)
theorem fb_hit {l : List Pt} {es : List (Value × List Pt)} {i : Nat} {c : Value × List Pt} (h : noI (wyB (some l)) es i) (hc : es[i]? = some c) (hp : wyB (some l) c.2 = true) : fbE l es = some c := by
  unfold fbE
  rw [List.find?_eq_some_iff_getElem]
  obtain ⟨h1, h2⟩ := List.getElem?_eq_some_iff.1 hc
  refine ⟨hp, i, h1, h2, fun j hj => ?_⟩
  have := h j (es[j]'(by omega)) hj (List.getElem?_eq_getElem (by omega))
  simp [this]
theorem fb_miss {l : List Pt} {es : List (Value × List Pt)} (h : noI (wyB (some l)) es es.length) : fbE l es = none := by
  unfold fbE
  rw [List.find?_eq_none]
  intro c hc
  obtain ⟨i, hi⟩ := List.getElem?_of_mem hc
  rw [h i c (List.getElem?_eq_some_iff.1 hi).1 hi]
  simp
theorem fb_stk (l : List Pt) (es : List (Value × List Pt)) : (fbE l es).map (·.2) = (lsO es).find? (wyB (some l)) := by
  unfold fbE
  rw [List.find?_map]
  rfl

set_option maxRecDepth 20000 in
set_option maxHeartbeats 4000000 in
theorem fbI_any (va vn : Value) (l : List Pt) (es : List (Value × List Pt)) (w : World) (h4 : l.length = 4) (ha : SlAt w va 4 3 (pcC l)) (hn : SlAt w vn es.length 1 (vsO es)) (he4 : ∀ c ∈ es, c.2.length = 4) (hes : ∀ c ∈ es, SlAt w c.1 4 3 (pcC c.2)) (hle : es.length ≤ 1528823808) (hT : TabH w) :
    Calls Tryd.prog 109 #[va, vn] w fun e w' => e = .returned (fbV l es) ∧ Below w.heap.size w w' := by
  have hO := Own.start w
  have hF := True.intro
  obtain ⟨A, c, rfl, nb, hA⟩ := hn.open
  obtain ⟨s, hs⟩ : ∃ s, es.length = s := ⟨_, rfl⟩
  have HS := hid hs
  rw [hs] at hn hA nb hle ⊢
  have HN := hid hn
  have HA := hid ha
  have HES := hid (And.intro he4 hes)
  have HT := hid hT
  have H4 := hid h4
  clear hn ha hes he4 hT h4 hs
  go_enter Tryd.func109, Tryd.ntmps109
  go_wp2_with fail
  go_loopw [9] (fun t wr => ∃ i : Nat, i ≤ s ∧ t = .int .i64 i ∧ Hid (noI (wyB (some l)) es i) ∧ Own w.heap.size (Below w.heap.size w) wr []) (fun t _ => s - (intOf t).toNat)
  case atStart => exact ⟨0, by omega, rfl, fun i' c h => by omega, hO⟩
  case round =>
    clear hO hF
    obtain ⟨i, hi, rfl, hno, hO⟩ := hrel
    have hF := True.intro
    by_cases he : i = s
    · subst he
      have HE := hid (show fbV l es = .slice none 0 0 by unfold fbV; rw [fb_miss (by rw [HS.out]; exact hno.out)]; rfl)
      go_wp2_with fail
      go_ret
      exact ⟨by rw [HE.out]; rfl, Own.base (by first | exact hO | (repeat (first | (with_reducible exact hO) | (with_reducible apply Own.alloc) | (with_reducible apply Own.drew) | ((with_reducible apply Own.set_at); (focus (show _ ≤ _; omega))))))⟩
    · have hil : i < s := by omega
      have hil2 : (i : Int) < (s : Int) := by omega
      have hi0 : (0 : Int) ≤ (i : Int) := by omega
      obtain ⟨b, off, rfl, _⟩ := hA (by omega)
      obtain ⟨⟨c1, l1⟩, hc1⟩ : ∃ c, es[i]? = some c := ⟨_, List.getElem?_eq_getElem (by have := HS.out; omega)⟩
      have hm := List.mem_of_getElem? hc1
      have h14 := HES.out.1 _ hm
      have hs1 := HES.out.2 _ hm
      dsimp only at h14 hs1
      have a0 := (HN.out.below hO.base).cellAt (show (vsO es)[i]? = some c1 by rw [List.getElem?_map, hc1]; rfl)
      obtain ⟨z, hz⟩ : ∃ z, mvZ l l1 = z := ⟨_, rfl⟩
      have HM := hid (mvI_is HT.out H4.out h14 (by omega) (by omega) hz HA.out hs1)
      have HW := hid (show wyB (some l) l1 = decide (z = 0) by unfold wyB; rw [← hz])
      have HC := hid hc1
      clear he hm h14 hs1 hz hc1
      by_cases hz0 : z = 0
      · subst hz0
        have HE := hid (show fbV l es = c1 by unfold fbV; rw [fb_hit hno.out HC.out (by rw [HW.out]; rfl)]; rfl)
        go_wp2_with (go_at_call 35; apply own_at hO; (repeat (first | (with_reducible exact hO) | (with_reducible apply Own.alloc) | (with_reducible apply Own.drew) | ((with_reducible apply Own.set_at); (focus (show _ ≤ _; omega))))); have hG := hF; clear hF; clear hO; intro hO; refine own_call hO (fun hB => HM.out _ hB) ?_; clear hO; intro w1 hO; (try simp only [World.size_alloc1, World.size_drew, Nat.reduceAdd] at hO); (try simp only [upd, updI, List.map_cons, List.map_nil, eq_self, if_true, if_false, reduceIte, Nat.add_eq_left, Nat.left_eq_add, Nat.reduceEqDiff, List.set_cons_zero, List.set_cons_succ, hG] at hO); clear hG; have hF := hO; (try simp only [Own, Item.Holds, apartI, CellsAt, Nat.reduceAdd, Nat.zero_add, List.mem_cons, List.not_mem_nil, or_false, forall_eq_or_imp, forall_eq, ne_eq, false_imp_iff, implies_true, and_true] at hF))
        go_ret
        exact ⟨by rw [HE.out]; rfl, Own.base (by first | exact hO | (repeat (first | (with_reducible exact hO) | (with_reducible apply Own.alloc) | (with_reducible apply Own.drew) | ((with_reducible apply Own.set_at); (focus (show _ ≤ _; omega))))))⟩
      · have hz1 : (z == 0) = false := by simp [hz0]
        have HU := hid (noI_up hno.out HC.out (by rw [HW.out, decide_eq_false hz0]))
        go_wp2_with (go_at_call 35; apply own_at hO; (repeat (first | (with_reducible exact hO) | (with_reducible apply Own.alloc) | (with_reducible apply Own.drew) | ((with_reducible apply Own.set_at); (focus (show _ ≤ _; omega))))); have hG := hF; clear hF; clear hO; intro hO; refine own_call hO (fun hB => HM.out _ hB) ?_; clear hO; intro w1 hO; (try simp only [World.size_alloc1, World.size_drew, Nat.reduceAdd] at hO); (try simp only [upd, updI, List.map_cons, List.map_nil, eq_self, if_true, if_false, reduceIte, Nat.add_eq_left, Nat.left_eq_add, Nat.reduceEqDiff, List.set_cons_zero, List.set_cons_succ, hG] at hO); clear hG; have hF := hO; (try simp only [Own, Item.Holds, apartI, CellsAt, Nat.reduceAdd, Nat.zero_add, List.mem_cons, List.not_mem_nil, or_false, forall_eq_or_imp, forall_eq, ne_eq, false_imp_iff, implies_true, and_true] at hF))
        go_roundw
        case rel => exact ⟨i + 1, by omega, by go_num, HU.out, hO⟩
        case measure => simp [intOf]; omega

/- What the library's DeleteFunc does with a row. -/
theorem no_cases (D : List Pt → Bool) (es : List (Value × List Pt)) : noI D es es.length ∨ ∃ (i : Nat) (c : Value × List Pt), noI D es i ∧ es[i]? = some c ∧ D c.2 = true := by
  cases h : es.find? fun c => D c.2 with
  | none =>
    left
    rw [List.find?_eq_none] at h
    intro i c _ hc
    have := h c (List.mem_of_getElem? hc)
    simpa using this
  | some c =>
    right
    obtain ⟨h1, i, hi, h2, h3⟩ := List.find?_eq_some_iff_getElem.1 h
    refine ⟨i, c, fun j c' hj hc' => ?_, by rw [List.getElem?_eq_getElem hi, h2], h1⟩
    have := h3 j hj
    obtain ⟨hl, rfl⟩ := List.getElem?_eq_some_iff.1 hc'
    simpa using this
theorem no_fil {D : List Pt → Bool} {es : List (Value × List Pt)} {i : Nat} (h : noI D es i) : (es.take i).filter (fun c => !D c.2) = es.take i := by
  rw [List.filter_eq_self]
  intro c hc
  obtain ⟨j, hj⟩ := List.getElem?_of_mem hc
  rw [List.getElem?_take] at hj
  split at hj
  · rw [h j c (by assumption) hj]; rfl
  · cases hj
theorem fil_up {D : List Pt → Bool} {es : List (Value × List Pt)} {j : Nat} {c : Value × List Pt} (hc : es[j]? = some c) : (es.take (j + 1)).filter (fun c => !D c.2) = (es.take j).filter (fun c => !D c.2) ++ (if D c.2 = true then [] else [c]) := by
  rw [List.take_add_one, hc, List.filter_append]
  cases h : D c.2 <;> simp [h]
/-- The row while it is gone through: what is kept of the first j chords stands in front, the others lie as they lay. -/
def kpI (D : List Pt → Bool) (es : List (Value × List Pt)) (i j : Nat) (xs : List Value) : Prop :=
  xs.length = es.length ∧ i < j ∧ j ≤ es.length ∧ ((es.take j).filter (fun c => !D c.2)).length = i ∧ xs.take i = vsO ((es.take j).filter (fun c => !D c.2)) ∧ ∀ j', j ≤ j' → xs[j']? = (vsO es)[j']?
theorem kp_start {D : List Pt → Bool} {es : List (Value × List Pt)} {i : Nat} {c : Value × List Pt} (h : noI D es i) (hc : es[i]? = some c) (hd : D c.2 = true) : kpI D es i (i + 1) (vsO es) := by
  have hl := (List.getElem?_eq_some_iff.1 hc).1
  have e : (es.take (i + 1)).filter (fun c => !D c.2) = es.take i := by rw [fil_up hc, no_fil h, if_pos hd, List.append_nil]
  refine ⟨List.length_map .., by omega, by omega, by rw [e, List.length_take]; omega, by rw [e]; simp [vsO, List.map_take], fun _ _ => rfl⟩
theorem kp_skip {D : List Pt → Bool} {es : List (Value × List Pt)} {i j : Nat} {xs : List Value} {c : Value × List Pt} (h : kpI D es i j xs) (hc : es[j]? = some c) (hd : D c.2 = true) : kpI D es i (j + 1) xs := by
  obtain ⟨h1, h2, h3, h4, h5, h6⟩ := h
  have hl := (List.getElem?_eq_some_iff.1 hc).1
  have e : (es.take (j + 1)).filter (fun c => !D c.2) = (es.take j).filter (fun c => !D c.2) := by rw [fil_up hc, if_pos hd, List.append_nil]
  exact ⟨h1, by omega, by omega, by rw [e]; exact h4, by rw [e]; exact h5, fun j' hj => h6 j' (by omega)⟩
theorem kp_keep {D : List Pt → Bool} {es : List (Value × List Pt)} {i j : Nat} {xs : List Value} {c : Value × List Pt} (h : kpI D es i j xs) (hc : es[j]? = some c) (hd : D c.2 = false) : kpI D es (i + 1) (j + 1) (xs.set i c.1) := by
  obtain ⟨h1, h2, h3, h4, h5, h6⟩ := h
  have hl := (List.getElem?_eq_some_iff.1 hc).1
  have e : (es.take (j + 1)).filter (fun c => !D c.2) = (es.take j).filter (fun c => !D c.2) ++ [c] := by rw [fil_up hc, if_neg (by rw [hd]; simp)]
  refine ⟨by rw [List.length_set, h1], by omega, by omega, by rw [e, List.length_append, h4]; rfl, ?_, fun j' hj => ?_⟩
  · rw [e, List.take_add_one, List.take_set_of_le (by omega), h5, List.getElem?_set_self (by omega)]
    simp [vsO]
  · rw [List.getElem?_set_ne (by omega)]; exact h6 j' (by omega)
theorem kp_end {D : List Pt → Bool} {es : List (Value × List Pt)} {i : Nat} {xs : List Value} (h : kpI D es i es.length xs) : (es.filter (fun c => !D c.2)).length = i ∧ xs.take i = vsO (es.filter (fun c => !D c.2)) := by
  obtain ⟨_, _, _, h4, h5, _⟩ := h
  rw [List.take_of_length_le (Nat.le_refl _)] at h4 h5
  exact ⟨h4, h5⟩
theorem Own.row_sets {n : Nat} {B : World → Prop} {L : List Item} {e : TypeId} {size k q cap : Nat} : ∀ (us : List Value) {w : World} {xs : List Value} (o : Nat), Own n B w (.row e size (.slice (some ⟨q, 0, none⟩) k cap) k xs :: L) → ∃ xs', xs'.take o = xs.take o ∧ Own n B (w.setCells q o us) (.row e size (.slice (some ⟨q, 0, none⟩) k cap) k xs' :: L)
  | [], w, xs, o, h => ⟨xs, rfl, h⟩
  | u :: us, w, xs, o, h => by
    obtain ⟨xs', h1, h2⟩ := Own.row_sets us (o + 1) (h.row_set o u)
    refine ⟨xs', ?_, h2⟩
    have := congrArg (List.take o) h1
    rw [List.take_take, List.take_take, Nat.min_eq_left (by omega), List.take_set_of_le (by omega)] at this
    exact this
theorem Own.row_cut {n : Nat} {B : World → Prop} {w : World} {L : List Item} {e : TypeId} {k q cap m : Nat} {xs : List Value} (h : Own n B w (.row e 1 (.slice (some ⟨q, 0, none⟩) k cap) k xs :: L)) (hm : m ≤ k) : Own n B w (.row e 1 (.slice (some ⟨q, 0, none⟩) m cap) m (xs.take m) :: L) := by
  obtain ⟨⟨h1, h2⟩, h3⟩ := h
  refine ⟨⟨?_, fun x hx => .of fun g hg => (h2 x hx).to g hg⟩, h3⟩
  obtain ⟨g1, g2⟩ := (h1 : w.ownsRow n e 1 _ k xs)
  refine ⟨by rw [List.length_take, g1]; omega, ?_⟩
  rcases g2 with ⟨g3, _⟩ | ⟨g, cap', cur, g3, g4, g5, g6, g7, g8, g9⟩
  · cases g3
  · cases g3
    refine Or.inr ⟨q, cap, cur, rfl, g4, g5, by omega, g7, g8, ?_⟩
    rw [← g9, List.take_take]
    congr 1
    omega

set_option maxRecDepth 20000 in
set_option maxHeartbeats 4000000 in
theorem ixI_any (q1 q2 : Nat) (v : Value) (es : List (Value × List Pt)) (D : List Pt → Bool) (w : World) (hs : SlAt w v es.length 1 (vsO es)) (hle : es.length ≤ 1528823808) (z : Int) (hz : (z = -1 ∧ noI D es es.length) ∨ ∃ (i : Nat) (c : Value × List Pt), z = i ∧ noI D es i ∧ es[i]? = some c ∧ D c.2 = true)
    (HP : ∀ W, Below w.heap.size w W → ∀ c ∈ es, Calls Tryd.prog 108 #[c.1, .pointer (some ⟨q1, 0, none⟩), .pointer (some ⟨q2, 0, none⟩)] W fun e w' => e = .returned (.bool (D c.2)) ∧ Below W.heap.size W w') :
    Calls Tryd.prog 127 #[v, .func (.func 108) #[] #[.pointer (some ⟨q1, 0, none⟩), .pointer (some ⟨q2, 0, none⟩)]] w fun e w' => e = .returned (.int .i64 z) ∧ Below w.heap.size w w' := by
  have hO := Own.start w
  have hF := True.intro
  obtain ⟨A, c, rfl, nb, hA⟩ := hs.open
  obtain ⟨s, hsl⟩ : ∃ s, es.length = s := ⟨_, rfl⟩
  have HSL := hid hsl
  rw [hsl] at hs hA nb hle hz ⊢
  have HS := hid hs
  have HZ := hid hz
  have HPP := hid HP
  clear hs hz HP hsl
  go_enter Tryd.func127, Tryd.ntmps127
  go_wp2_with fail
  go_loopw [8] (fun t wr => ∃ i : Nat, i ≤ s ∧ t = .int .i64 i ∧ Hid (noI D es i) ∧ Own w.heap.size (Below w.heap.size w) wr []) (fun t _ => s - (intOf t).toNat)
  case atStart => exact ⟨0, by omega, rfl, fun i' c h => by omega, hO⟩
  case round =>
    clear hO hF
    obtain ⟨i, hi, rfl, hno, hO⟩ := hrel
    have hF := True.intro
    by_cases he : i = s
    · subst he
      have HE := hid (show z = -1 from by
        rcases HZ.out with ⟨h, _⟩ | ⟨j, c, _, _, hc, hd⟩
        · exact h
        · have := hno.out j c (by have := (List.getElem?_eq_some_iff.1 hc).1; have := HSL.out; omega) hc
          rw [hd] at this
          cases this)
      go_wp2_with fail
      go_ret
      exact ⟨ret_int HE.out.symm, Own.base (by first | exact hO | (repeat (first | (with_reducible exact hO) | (with_reducible apply Own.alloc) | (with_reducible apply Own.drew) | ((with_reducible apply Own.set_at); (focus (show _ ≤ _; omega))))))⟩
    · have hil : i < s := by omega
      have hil2 : (i : Int) < (s : Int) := by omega
      have hi0 : (0 : Int) ≤ (i : Int) := by omega
      obtain ⟨b, off, rfl, _⟩ := hA (by omega)
      obtain ⟨⟨c1, l1⟩, hc1⟩ : ∃ c, es[i]? = some c := ⟨_, List.getElem?_eq_getElem (by have := HSL.out; omega)⟩
      have a0 := (HS.out.below hO.base).cellAt (show (vsO es)[i]? = some c1 by rw [List.getElem?_map, hc1]; rfl)
      obtain ⟨d, hd⟩ : ∃ d, D l1 = d := ⟨_, rfl⟩
      have HC := hid (And.intro hc1 hd)
      have HP1 := hid (fun W (hW : Below w.heap.size w W) => show Calls Tryd.prog 108 #[c1, .pointer (some ⟨q1, 0, none⟩), .pointer (some ⟨q2, 0, none⟩)] W fun e w' => e = .returned (.bool d) ∧ Below W.heap.size W w' by
        have := HPP.out W hW (c1, l1) (List.mem_of_getElem? hc1)
        rwa [hd] at this)
      clear he hc1 hd
      cases d
      · have HU := hid (noI_up hno.out HC.out.1 HC.out.2)
        go_wp2_with (go_at_call 108; apply own_at hO; (repeat (first | (with_reducible exact hO) | (with_reducible apply Own.alloc) | (with_reducible apply Own.drew) | ((with_reducible apply Own.set_at); (focus (show _ ≤ _; omega))))); have hG := hF; clear hF; clear hO; intro hO; refine own_call hO (fun hB => HP1.out _ hB) ?_; clear hO; intro w1 hO; (try simp only [World.size_alloc1, World.size_drew, Nat.reduceAdd] at hO); (try simp only [upd, updI, List.map_cons, List.map_nil, eq_self, if_true, if_false, reduceIte, Nat.add_eq_left, Nat.left_eq_add, Nat.reduceEqDiff, List.set_cons_zero, List.set_cons_succ, hG] at hO); clear hG; have hF := hO; (try simp only [Own, Item.Holds, apartI, CellsAt, Nat.reduceAdd, Nat.zero_add, List.mem_cons, List.not_mem_nil, or_false, forall_eq_or_imp, forall_eq, ne_eq, false_imp_iff, implies_true, and_true] at hF))
        go_roundw
        case rel => exact ⟨i + 1, by omega, by go_num, HU.out, hO⟩
        case measure => simp [intOf]; omega
      · have HE := hid (show z = i from by
          rcases HZ.out with ⟨_, h⟩ | ⟨j, c, h, h1, h2, h3⟩
          · have := h i _ (by have := HSL.out; omega) HC.out.1
            rw [HC.out.2] at this
            cases this
          · rcases Nat.lt_trichotomy i j with g | g | g
            · have := h1 i _ g HC.out.1
              rw [HC.out.2] at this
              cases this
            · rw [h, g]
            · have := hno.out j c g h2
              rw [h3] at this
              cases this)
        go_wp2_with (go_at_call 108; apply own_at hO; (repeat (first | (with_reducible exact hO) | (with_reducible apply Own.alloc) | (with_reducible apply Own.drew) | ((with_reducible apply Own.set_at); (focus (show _ ≤ _; omega))))); have hG := hF; clear hF; clear hO; intro hO; refine own_call hO (fun hB => HP1.out _ hB) ?_; clear hO; intro w1 hO; (try simp only [World.size_alloc1, World.size_drew, Nat.reduceAdd] at hO); (try simp only [upd, updI, List.map_cons, List.map_nil, eq_self, if_true, if_false, reduceIte, Nat.add_eq_left, Nat.left_eq_add, Nat.reduceEqDiff, List.set_cons_zero, List.set_cons_succ, hG] at hO); clear hG; have hF := hO; (try simp only [Own, Item.Holds, apartI, CellsAt, Nat.reduceAdd, Nat.zero_add, List.mem_cons, List.not_mem_nil, or_false, forall_eq_or_imp, forall_eq, ne_eq, false_imp_iff, implies_true, and_true] at hF))
        go_ret
        exact ⟨ret_int HE.out.symm, Own.base (by first | exact hO | (repeat (first | (with_reducible exact hO) | (with_reducible apply Own.alloc) | (with_reducible apply Own.drew) | ((with_reducible apply Own.set_at); (focus (show _ ≤ _; omega))))))⟩
theorem zeroSt (w : World) : (zeroValue 23).run Tryd.prog w = .ok (.slice none 0 0) w := by kernel_rfl

set_option maxRecDepth 20000 in
set_option maxHeartbeats 8000000 in
theorem dfI_own {n : Nat} {B : World → Prop} {w : World} {L : List Item} (q1 q2 : Nat) (v : Value) (es : List (Value × List Pt)) (D : List Pt → Bool) (hO : Own n B w (.row 23 1 v es.length (vsO es) :: L)) (hle : es.length ≤ 1528823808) (hfm : ∀ c ∈ es, ∃ A m k, c.1 = .slice A m k)
    (HP : ∀ W xs, Own n B W (.row 23 1 v es.length xs :: L) → ∀ c ∈ es, Calls Tryd.prog 108 #[c.1, .pointer (some ⟨q1, 0, none⟩), .pointer (some ⟨q2, 0, none⟩)] W fun e w' => e = .returned (.bool (D c.2)) ∧ Below W.heap.size W w') :
    Calls Tryd.prog 107 #[v, .func (.func 108) #[] #[.pointer (some ⟨q1, 0, none⟩), .pointer (some ⟨q2, 0, none⟩)]] w (OwnOut n B fun v' L' => L' = .row 23 1 v' (es.filter (fun c => !D c.2)).length (vsO (es.filter (fun c => !D c.2))) :: L) := by
  have hF := True.intro
  obtain ⟨s, hsl⟩ : ∃ s, es.length = s := ⟨_, rfl⟩
  have HSL := hid hsl
  have hnc := no_cases D es
  have HIX := hid (fun (z : Int) hz => ixI_any q1 q2 v es D w (SlAt.of_row hO.1.1) hle z hz (fun W hW c hc => HP W (vsO es) (hO.below hW) c hc))
  rw [hsl] at HIX hO hle hnc HP
  have HPP := hid HP
  have HFM := hid hfm
  clear HP hsl hfm
  rcases hnc with hno | ⟨i0, c0, hno, hc0, hd0⟩
  · have HX := hid (HIX.out (-1) (Or.inl ⟨rfl, hno⟩))
    have HE := hid (show es.filter (fun c => !D c.2) = es from by
      have := no_fil hno
      rwa [List.take_of_length_le (by rw [HSL.out]; omega)] at this)
    clear hno HIX
    go_enter Tryd.func107, Tryd.ntmps107
    go_wp2_with (go_at_call 127; refine HX.out.mono ?_; rintro e w1 ⟨rfl, hB1⟩; have hO2 := hO.below hB1; clear hO hB1; have hO := hO2; clear hO2)
    go_ret
    exact ⟨_, _, rfl, by rw [HE.out, HSL.out]; rfl, hO⟩
  · have h0 := (List.getElem?_eq_some_iff.1 hc0).1
    have HX := hid (HIX.out i0 (Or.inr ⟨i0, c0, rfl, hno, hc0, hd0⟩))
    have HK := hid (kp_start hno hc0 hd0)
    have hi0s : i0 < s := by rw [← HSL.out]; exact h0
    obtain ⟨q, cap, hv, hcap1, hcap2⟩ := hO.row_open (by omega)
    subst hv
    have hcap3 : cap ≤ 9223372036854775807 := by unfold maxLen at hcap2; omega
    have hb1 : ((i0 : Int) == -1) = false := by simp
    have wi0 : IntKind.i64.wrap ((i0 : Int) + 1) = (i0 : Int) + 1 := IntWalk.i64_in _ (by omega)
    clear hno hc0 hd0 h0 HIX
    go_enter Tryd.func107, Tryd.ntmps107
    go_wp2_with (go_at_call 127; refine HX.out.mono ?_; rintro e w1 ⟨rfl, hB1⟩; have hO2 := hO.below hB1; clear hO hB1; have hO := hO2; clear hO2)
    go_loopw [5, 6] (fun ti tj wr => ∃ (i j : Nat) (xs : List Value), ti = .int .i64 i ∧ tj = .int .i64 j ∧ Hid (kpI D es i j xs) ∧ Own n B wr (.row 23 1 (.slice (some ⟨q, 0, none⟩) s cap) s xs :: L)) (fun _ tj _ => s - (intOf tj).toNat)
    case atStart => exact ⟨i0, i0 + 1, vsO es, rfl, by go_num, HK.out, hO⟩
    case round =>
      clear hO hF
      obtain ⟨i, j, xs, rfl, rfl, hk, hO⟩ := hrel
      have hF := True.intro
      have hij : i < j := hk.out.2.1
      have hjs : j ≤ s := by have := hk.out.2.2.1; have := HSL.out; omega
      by_cases he : j = s
      · subst he
        have HEND := hid (kp_end (by rw [HSL.out]; exact hk.out))
        have hi1 : (i : Int) ≤ (j : Int) := by omega
        have hi0 : (0 : Int) ≤ (i : Int) := by omega
        have hxl : xs.length = j := by rw [hk.out.1, HSL.out]
        have hcl : ∀ ty, (Builtin.clear_ #[49] ty #[.slice (some ⟨q, i, none⟩) (j - i) (cap - i)]).run Tryd.prog wr = .ok (.tuple #[]) (wr.setCells q i (List.replicate (j - i) (.slice none 0 0))) :=
          fun ty => Lib.run_clear_slice wr _ _ ty _ Tryd.underlying49 zeroSt rfl rfl q i _ _ (by omega) (fun t ht => by
            obtain ⟨u, hu⟩ : ∃ u, xs[i + t]? = some u := ⟨_, List.getElem?_eq_getElem (by omega)⟩
            rw [hO.row_cell hu]; rfl) (fun t ht => hO.row_free (i + t))
        clear hxl
        go_wp2_with fail
        go_ret
        obtain ⟨xs', hx1, hx2⟩ := hO.row_sets (List.replicate (j - i) (.slice none 0 0)) i
        exact ⟨_, _, rfl, rfl, by
          rw [HEND.out.1, ← HEND.out.2, ← hx1]
          exact hx2.row_cut (by omega)⟩
      · have hjl : j < s := by omega
        have hjl2 : (j : Int) < (s : Int) := by omega
        have hj0 : (0 : Int) ≤ (j : Int) := by omega
        have hi0 : (0 : Int) ≤ (i : Int) := by omega
        have hil2 : (i : Int) < (s : Int) := by omega
        obtain ⟨⟨c1, l1⟩, hc1⟩ : ∃ c, es[j]? = some c := ⟨_, List.getElem?_eq_getElem (by have := HSL.out; omega)⟩
        obtain ⟨A1, m1, k1, hc1f⟩ := HFM.out _ (List.mem_of_getElem? hc1)
        dsimp only at hc1f
        subst hc1f
        obtain ⟨d, hd⟩ : ∃ d, D l1 = d := ⟨_, rfl⟩
        have a0 := hO.row_cell (i := j) (u := .slice A1 m1 k1) (by rw [hk.out.2.2.2.2.2 j (Nat.le_refl _), List.getElem?_map, hc1]; rfl)
        have HP1 := hid (fun W (hW : Own n B W (.row 23 1 (.slice (some ⟨q, 0, none⟩) s cap) s xs :: L)) => show Calls Tryd.prog 108 #[.slice A1 m1 k1, .pointer (some ⟨q1, 0, none⟩), .pointer (some ⟨q2, 0, none⟩)] W fun e w' => e = .returned (.bool d) ∧ Below W.heap.size W w' by
          have := HPP.out W xs hW (.slice A1 m1 k1, l1) (List.mem_of_getElem? hc1)
          rwa [hd] at this)
        obtain ⟨old, hold⟩ : ∃ u, xs[i]? = some u := ⟨_, List.getElem?_eq_getElem (by have := hk.out.1; have := HSL.out; omega)⟩
        have HOLD := hid hold
        have HC := hid (And.intro hc1 hd)
        have wi : IntKind.i64.wrap ((i : Int) + 1) = (i : Int) + 1 := IntWalk.i64_in _ (by omega)
        have wj : IntKind.i64.wrap ((j : Int) + 1) = (j : Int) + 1 := IntWalk.i64_in _ (by omega)
        clear he hc1 hd hold
        cases d
        · have HU := hid (kp_keep hk.out HC.out.1 HC.out.2)
          go_wp2_with (go_at_call 108; refine (HP1.out _ hO).mono ?_; rintro e w1 ⟨rfl, hB1⟩; have hO2 := hO.below hB1; clear hO hB1 a0; have hO := hO2; clear hO2; have a1 := hO.row_cell HOLD.out; have f1 := hO.row_free i)
          go_roundw
          case rel => exact ⟨i + 1, j + 1, _, by go_num, by go_num, HU.out, hO.row_set i _⟩
          case measure => simp [intOf]; omega
        · have HU := hid (kp_skip hk.out HC.out.1 HC.out.2)
          go_wp2_with (go_at_call 108; refine (HP1.out _ hO).mono ?_; rintro e w1 ⟨rfl, hB1⟩; have hO2 := hO.below hB1; clear hO hB1 a0; have hO := hO2; clear hO2)
          go_roundw
          case rel => exact ⟨i, j + 1, xs, rfl, by go_num, HU.out, hO⟩
          case measure => simp [intOf]; omega
end Go.Proofs.YtfdglkiehkilnaaDoor
