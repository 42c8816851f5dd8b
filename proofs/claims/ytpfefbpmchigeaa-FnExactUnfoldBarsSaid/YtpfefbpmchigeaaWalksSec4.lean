/- The laws' own functions over sections: marks are laid into sections and into their endings. -/
import Derived.Test.YtpfefbpmchigeaaWalksSec3
namespace Go.Proofs.Ytpfefbpmchigeaa
set_option linter.unusedSimpArgs false
set_option linter.unusedVariables false
open Go.RowKit

/-- how many cells rows have. -/
def tot (cs : List (Value × List Value)) : Nat := (cs.map fun p => p.2.length).sum
theorem tot_append (a b : List (Value × List Value)) : tot (a ++ b) = tot a + tot b := by simp [tot]
theorem tot_es {l : List Sec} : ∀ {es : List (Value × List Value)}, EsOf l es → tot es = enN l := by
  induction l with
  | nil => intro es h; have : es = [] := List.eq_nil_of_length_eq_zero h.1; subst this; rfl
  | cons s l ih =>
    intro es h
    cases es with
    | nil => have := h.1; simp at this
    | cons p r =>
      have h0 := h.2 0 s p rfl rfl
      have hr : EsOf l r := ⟨by have := h.1; simpa using this, fun k s' p' a b => h.2 (k + 1) s' p' (by simpa using a) (by simpa using b)⟩
      have := ih hr
      simp only [tot, List.map_cons, List.sum_cons, enN] at this ⊢
      rw [this, h0, List.length_map]
theorem split_at {α : Type} {l : List α} {i : Nat} {p : α} (h : l[i]? = some p) : ∃ U V, l = U ++ p :: V ∧ U.length = i := by
  have hl := (List.getElem?_eq_some_iff.1 h).1
  refine ⟨l.take i, l.drop (i + 1), ?_, by rw [List.length_take]; omega⟩
  have : l.drop i = p :: l.drop (i + 1) := by
    rw [List.drop_eq_getElem_cons hl]; congr 1
    rw [List.getElem?_eq_getElem hl] at h; exact Option.some.inj h
  rw [← this, List.take_append_drop]
theorem rwI_mid (U V : List (Value × List Value)) (p : Value × List Value) (it : Item) (L : List Item) : (it :: (rwI (U ++ p :: V) ++ L)).Perm (.row 3 1 p.1 p.2.length p.2 :: it :: (rwI (U ++ V) ++ L)) := by
  have h1 : rwI (U ++ p :: V) ++ L = rwI U ++ (.row 3 1 p.1 p.2.length p.2 :: (rwI V ++ L)) := by simp [rwI]
  have h2 : rwI (U ++ V) ++ L = rwI U ++ (rwI V ++ L) := by simp [rwI]
  rw [h1, h2]
  exact (List.Perm.cons it List.perm_middle).trans (List.Perm.swap _ _ _)

set_option maxHeartbeats 8000000 in
theorem markSec_own {n : Nat} {B : World → Prop} {L : List Item} (va : Value) (l : List Sec) (es : List (Value × List Value)) (k0 : Int) (w : World) (hO : Own n B w (.row 27 3 va l.length (scC l (es.map (·.1))) :: (rwI es ++ L))) (he : EsOf l es) (hn : l.length ≤ 1048576) (hen : enN l ≤ 1048576) (h0 : 0 ≤ k0) (h1 : k0 ≤ 10) :
    Calls Try.prog 23 #[va, .int .i64 k0] w fun e w' => ∃ r, e = .returned (.int .i64 r) ∧ (0 ≤ r ∧ r ≤ 4000000) ∧ Own n B w' L := by
  have ht := tot_es he
  obtain ⟨N, hN⟩ : ∃ N, l.length = N := ⟨_, rfl⟩
  have hel : es.length = N := by rw [he.1, hN]
  obtain ⟨A, c, rfl⟩ := (SlAt.of_row hO.1.1).form
  rw [hN] at hn hO
  rw [hN]
  have hx0 : (scC l (es.map (·.1))).length = N * 3 := by rw [scC_len (by rw [List.length_map, he.1]), hN]
  have hx2 : ∀ (j : Nat) (p : Value × List Value), es[j]? = some p → (scC l (es.map (·.1)))[j * 3 + 2]? = some p.1 := fun j p hj => by
    have hjl := (List.getElem?_eq_some_iff.1 hj).1
    obtain ⟨s, hs⟩ : ∃ s, l[j]? = some s := ⟨_, List.getElem?_eq_getElem (by omega)⟩
    exact (scC_at hs (ev := p.1) (by rw [List.getElem?_map, hj]; rfl)).2.2
  obtain ⟨X, hX⟩ : ∃ X, scC l (es.map (·.1)) = X := ⟨_, rfl⟩
  rw [hX] at hO hx0 hx2
  obtain ⟨T, hT⟩ : ∃ T, enN l = T := ⟨_, rfl⟩
  rw [hT] at ht hen
  have HX := hid hx2
  clear he hN hX hT hx2
  go_enter Try.func23, Try.ntmps23
  go_wp2_with fail
  go_loopw [1, 5] (fun s t wr => ∃ (i : Nat) (r : Int) (cs : List (Value × List Value)) (xs : List Value), i ≤ N ∧ t = .int .i64 i ∧ s = .int .i64 r ∧ (0 ≤ r ∧ r ≤ k0 + 2 * i + tot (cs.take i)) ∧ Hid (cs.length = N ∧ tot cs = T ∧ xs.length = N * 3 ∧ ∀ (j : Nat) (p : Value × List Value), cs[j]? = some p → xs[j * 3 + 2]? = some p.1) ∧ Own n B wr (.row 27 3 (.slice A N c) N xs :: (rwI cs ++ L))) (fun _ t _ => N - (intOf t).toNat)
  case atStart => exact ⟨0, k0, es, X, by omega, rfl, rfl, by simp [tot]; omega, ⟨hel, ht, hx0, HX.out⟩, hO⟩
  case round =>
    clear hO HX hx0 hel ht es
    obtain ⟨i, r, cs, xs, hi, rfl, rfl, hr, HC, hO⟩ := hrel
    have htl : tot (cs.take i) ≤ T := by
      have := tot_append (cs.take i) (cs.drop i)
      rw [List.take_append_drop, HC.out.2.1] at this
      omega
    by_cases hend : i = N
    · subst hend
      have hrb : r ≤ 4000000 := by omega
      have hr0 := hr.1
      clear htl hr
      go_wp2_with fail
      go_ret
      exact ⟨r, rfl, ⟨hr0, hrb⟩, hO.2.skip⟩
    · have hlt : i < N := by omega
      have hlt2 : (i : Int) < N := by omega
      obtain ⟨q, cp, hq, q1, q2⟩ := hO.row_open (by omega)
      cases hq
      unfold maxLen at q2
      obtain ⟨p, hp⟩ : ∃ p, cs[i]? = some p := ⟨_, List.getElem?_eq_getElem (by have := HC.out.1; omega)⟩
      obtain ⟨U, V, rfl, hU⟩ := split_at hp
      obtain ⟨hc1, hc2, hc3, hc4⟩ := HC.out
      have e2 := hc4 i p hp
      obtain ⟨z0, e0⟩ : ∃ z, xs[i * 3]? = some z := ⟨_, List.getElem?_eq_getElem (by omega)⟩
      obtain ⟨z1, e1⟩ : ∃ z, xs[i * 3 + 1]? = some z := ⟨_, List.getElem?_eq_getElem (by omega)⟩
      have c0 := hO.row_cell e0
      have c1 := hO.row_cell e1
      have c2 := hO.row_cell e2
      have f0 := hO.row_free (i * 3)
      have f1 := hO.row_free (i * 3 + 1)
      have hO2 := ((hO.row_set (i * 3) (.int .i64 r)).row_set (i * 3 + 1) (.int .i64 (r + 1))).perm (rwI_mid U V p _ L)
      have htu : tot ((U ++ p :: V).take i) = tot U := by rw [List.take_append, hU, Nat.sub_self]; simp [List.take_of_length_le (Nat.le_of_eq hU)]
      have htv : tot (U ++ p :: V) = tot U + (p.2.length + tot V) := by rw [tot_append]; simp [tot]
      have pb : r + 2 ≤ 4000000 := by omega
      rw [htu] at hr
      have HT := hid (And.intro hc2 (And.intro htv hU))
      have HC3 := hid (And.intro hc1 (And.intro hc3 hc4))
      have plen : p.2.length ≤ 1048576 := by omega
      have HJ := hid (And.intro hi hlt)
      obtain ⟨ev, ys⟩ := p
      simp only at e2 c2 hO2 plen HT
      clear hend hp e0 e1 e2 hc1 hc2 hc3 hc4 hO htu htv hi htl HC hlt
      have w1' : IntKind.i64.wrap (r + 1) = r + 1 := IntWalk.i64_in _ (by omega)
      have w2' : IntKind.i64.wrap (r + 1 + 1) = r + 1 + 1 := IntWalk.i64_in _ (by omega)
      have r0 := hr.1
      have HR := hid hr
      clear hr
      go_wp2_with (go_at_call 24; refine own_mark1 hO2 (fun hr => markIS_any _ _ _ _ _ _ _ hr (by omega) (by omega) (by omega)) ?_; clear hO2 c0 c1 c2 f0 f1; intro w1 hO)
      go_roundw
      case rel =>
        have hml : (mkTo (r + 1 + 1) ys.length ys).length = ys.length := mkTo_length _ _ _
        obtain ⟨hc1, hc3, hc4⟩ := HC3.out
        obtain ⟨ht1, ht2, hU⟩ := HT.out
        refine ⟨i + 1, r + 1 + 1 + ys.length, U ++ (ev, mkTo (r + 1 + 1) ys.length ys) :: V, (xs.set (i * 3) (.int .i64 r)).set (i * 3 + 1) (.int .i64 (r + 1)), by have := HJ.out; omega, by go_num, rfl, ?_, ⟨by simpa using hc1, ?_, by simpa using hc3, ?_⟩, ?_⟩
        · have e : tot ((U ++ (ev, mkTo (r + 1 + 1) ys.length ys) :: V).take (i + 1)) = tot U + ys.length := by
            rw [List.take_append, hU, show i + 1 - i = 1 by omega, List.take_of_length_le (by omega), tot_append]
            simp [tot, hml]
          rw [e]
          have := HR.out
          push_cast
          omega
        · rw [tot_append] at ht1 ⊢
          simp only [tot, List.map_cons, List.sum_cons] at ht1 ⊢
          rw [hml]
          exact ht1
        · intro j p hj
          have hx := hc4 j
          rw [List.getElem?_set_ne (by omega), List.getElem?_set_ne (by omega)]
          by_cases hji : j = i
          · subst hji
            rw [← hU, List.getElem?_append_right (Nat.le_refl _), Nat.sub_self] at hj
            simp at hj
            subst hj
            exact hx (ev, ys) (by rw [← hU, List.getElem?_append_right (Nat.le_refl _), Nat.sub_self]; rfl)
          · refine hx p ?_
            by_cases hlt : j < i
            · rw [List.getElem?_append_left (by omega)] at hj ⊢
              exact hj
            · obtain ⟨d, hd⟩ : ∃ d, j - U.length = d + 1 := ⟨j - U.length - 1, by omega⟩
              rw [List.getElem?_append_right (by omega), hd, List.getElem?_cons_succ] at hj ⊢
              exact hj
        · have hp := (rwI_mid U V (ev, mkTo (r + 1 + 1) ys.length ys) (.row 27 3 (.slice (some ⟨q, 0, none⟩) N c) N ((xs.set (i * 3) (.int .i64 r)).set (i * 3 + 1) (.int .i64 (r + 1)))) L).symm
          simp only at hp
          rw [hml] at hp
          exact hO.perm hp
      case measure => have := HJ.out; simp [intOf]; omega
end Go.Proofs.Ytpfefbpmchigeaa
