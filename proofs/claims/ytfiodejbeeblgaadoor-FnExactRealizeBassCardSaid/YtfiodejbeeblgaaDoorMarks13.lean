/- The laws' own functions over chords: marks are laid into all of them, and are found again. -/
import Derived.Test.YtfiodejbeeblgaaDoorStks2
namespace Go.Proofs.YtfiodejbeeblgaaDoor
set_option linter.unusedSimpArgs false
set_option linter.unusedVariables false
set_option maxRecDepth 8000
open Go.RowKit

/-- The rows with marks, from r on. -/
def mkQ : Int → List (Value × Nat × List Value) → List (Value × Nat × List Value)
  | _, [] => []
  | r, p :: cs => (p.1, p.2.1, mkTo r p.2.2.length p.2.2) :: mkQ (r + p.2.2.length) cs
theorem totQ_cons (p : Value × Nat × List Value) (cs : List (Value × Nat × List Value)) : totQ (p :: cs) = p.2.2.length + totQ cs := by simp [totQ]
theorem mkQ_append : ∀ (a : List (Value × Nat × List Value)) (b : List (Value × Nat × List Value)) (r : Int), mkQ r (a ++ b) = mkQ r a ++ mkQ (r + totQ a) b
  | [], b, r => by simp [mkQ, totQ]
  | p :: a, b, r => by
    rw [List.cons_append, mkQ, mkQ_append a b, mkQ, totQ_cons, List.cons_append]
    congr 3
    push_cast
    omega
theorem mkQ_at : ∀ {cs : List (Value × Nat × List Value)} {i : Nat} {p : Value × Nat × List Value} {r : Int}, cs[i]? = some p → (mkQ r cs)[i]? = some (p.1, p.2.1, mkTo (r + totQ (cs.take i)) p.2.2.length p.2.2)
  | [], i, p, r, h => by simp at h
  | q :: cs, 0, p, r, h => by simp at h; subst h; simp [mkQ, totQ]
  | q :: cs, i + 1, p, r, h => by
    rw [mkQ, List.getElem?_cons_succ, mkQ_at (by simpa using h), List.take_succ_cons, totQ_cons]
    congr 3
    push_cast
    congr 1
    omega
theorem totQ_take (cs : List (Value × Nat × List Value)) (i : Nat) : totQ (cs.take i) ≤ totQ cs := by
  have := totQ_append (cs.take i) (cs.drop i)
  rw [List.take_append_drop] at this
  omega

set_option maxHeartbeats 8000000 in
theorem markPSS_keep {n : Nat} {B : World → Prop} {L : List Item} (va : Value) (cs : List (Value × Nat × List Value)) (X : List Value) (N : Nat) (k0 : Int) (w : World) (hN : cs.length = N) (hX : cs.map (·.1) = X) (hO : Own n B w (.row 27 1 va N X :: (rwQ cs ++ L))) (hn : N ≤ 1048576) (hen : totQ cs ≤ 3145728) (h0 : 0 ≤ k0) (h1 : k0 ≤ 10) :
    Calls Tryd.prog 35 #[va, .int .i64 k0] w fun e w' => e = .returned (.int .i64 (k0 + totQ cs)) ∧ Own n B w' (.row 27 1 va N X :: (rwQ (mkQ k0 cs) ++ L)) := by
  obtain ⟨A, c, rfl⟩ := (SlAt.of_row hO.1.1).form
  have HC := hid (And.intro hN hX)
  have HE := hid hen
  clear hN hX hen
  go_enter Tryd.func35, Tryd.ntmps35
  go_wp2_with fail
  go_loopw [1, 5] (fun s t wr => ∃ (i : Nat) (r : Int), i ≤ N ∧ t = .int .i64 i ∧ s = .int .i64 r ∧ Hid (r = k0 + totQ (cs.take i)) ∧ Own n B wr (.row 27 1 (.slice A N c) N X :: (rwQ (mkQ k0 (cs.take i) ++ cs.drop i) ++ L))) (fun _ t _ => N - (intOf t).toNat)
  case atStart => exact ⟨0, k0, by omega, rfl, rfl, by show k0 = k0 + ((totQ []  : Nat) : Int); simp [totQ], hO⟩
  case round =>
    clear hO
    obtain ⟨i, r, hi, rfl, rfl, hr, hO⟩ := hrel
    by_cases hend : i = N
    · subst hend
      have HR := hid (show r = k0 + totQ cs ∧ mkQ k0 (cs.take i) ++ cs.drop i = mkQ k0 cs from by
        have hl := HC.out.1
        exact ⟨by rw [hr.out, List.take_of_length_le (by omega)], by rw [List.take_of_length_le (by omega), List.drop_of_length_le (by omega), List.append_nil]⟩)
      go_wp2_with fail
      go_ret
      exact ⟨by rw [← HR.out.1]; rfl, by rw [← HR.out.2]; exact hO⟩
    · have hlt : i < N := by omega
      have hlt2 : (i : Int) < N := by omega
      have hi0 : (0 : Int) ≤ (i : Int) := by omega
      obtain ⟨q, cp, hq, q1, q2⟩ := hO.row_open (by omega)
      cases hq
      unfold maxLen at q2
      obtain ⟨⟨ev, kk, ys⟩, hp⟩ : ∃ p, cs[i]? = some p := ⟨_, List.getElem?_eq_getElem (by have := HC.out.1; omega)⟩
      have hx : X[i]? = some ev := by rw [← HC.out.2, List.getElem?_map, hp]; rfl
      have c0 := hO.row_cell hx
      have hd : cs.drop i = (ev, kk, ys) :: cs.drop (i + 1) := by
        have hl := (List.getElem?_eq_some_iff.1 hp).1
        rw [List.getElem?_eq_getElem hl] at hp
        rw [List.drop_eq_getElem_cons hl, Option.some.inj hp]
      rw [hd] at hO
      have hO2 := hO.perm (rwQ_mid _ _ (ev, kk, ys) _ L)
      dsimp only at hO2
      have hpl : ys.length = kk * 3 := (SlAt.of_row hO2.1.1).1
      have htk : cs.take (i + 1) = cs.take i ++ [(ev, kk, ys)] := by rw [List.take_add_one, hp]; rfl
      have ht1 := totQ_take cs (i + 1)
      rw [htk, totQ_append] at ht1
      have ht2 : totQ [(ev, kk, ys)] = ys.length := by simp [totQ]
      rw [ht2] at ht1
      have hen := HE.out
      have hrr := hr.out
      have r0 : 0 ≤ r := by omega
      have rb : r ≤ 10000000 := by omega
      have kb : kk ≤ 1000000000 := by omega
      have HN := hid (show r + (ys.length : Int) = k0 + totQ (cs.take (i + 1)) from by rw [htk, totQ_append, ht2, hr.out]; push_cast; omega)
      have HM := hid (show mkQ k0 (cs.take (i + 1)) ++ cs.drop (i + 1) = mkQ k0 (cs.take i) ++ (ev, kk, mkTo r ys.length ys) :: cs.drop (i + 1) from by
        rw [htk, mkQ_append, ← hr.out]
        simp [mkQ])
      clear hend hp hx hd hO hpl htk ht1 ht2 hen hrr
      go_wp2_with (go_at_call 27; refine own_mark hO2 (fun hr => markPS_any _ _ _ _ _ _ _ hr r0 rb kb) ?_; clear hO2 c0; intro w1 hO)
      go_roundw
      case rel => exact ⟨i + 1, r + ys.length, by omega, by go_num, rfl, HN.out, by
        rw [HM.out]
        exact hO.perm (rwQ_mid _ _ (ev, kk, mkTo r ys.length ys) _ L).symm⟩
      case measure => simp [intOf]; omega

set_option maxHeartbeats 8000000 in
theorem heldPSS_any (va : Value) (cs : List (Value × Nat × List Value)) (X : List Value) (N : Nat) (k0 : Int) (w : World) (hN : cs.length = N) (hX : cs.map (·.1) = X) (hs : SlAt w va N 1 X)
    (hm : ∀ (i : Nat) (p : Value × Nat × List Value), cs[i]? = some p → SlAt w p.1 p.2.1 3 (mkTo (k0 + totQ (cs.take i)) p.2.2.length p.2.2)) (hn : N ≤ 1048576) (hen : totQ cs ≤ 3145728) (h0 : 0 ≤ k0) (h1 : k0 ≤ 10) :
    Calls Tryd.prog 36 #[va, .int .i64 k0] w fun e w' => e = .returned (.int .i64 (k0 + totQ cs)) ∧ Below w.heap.size w w' := by
  have hO := Own.start w
  have hF := True.intro
  obtain ⟨A, c, rfl, nb, hA⟩ := hs.open
  have HS := hid hs
  have HC := hid (And.intro hN hX)
  have HM := hid hm
  have HE := hid hen
  clear hN hX hs hm hen
  go_enter Tryd.func36, Tryd.ntmps36
  go_wp2_with fail
  go_loopw [1, 5] (fun s t wr => ∃ (i : Nat) (r : Int), i ≤ N ∧ t = .int .i64 i ∧ s = .int .i64 r ∧ Hid (r = k0 + totQ (cs.take i)) ∧ Own w.heap.size (Below w.heap.size w) wr []) (fun _ t _ => N - (intOf t).toNat)
  case atStart => exact ⟨0, k0, by omega, rfl, rfl, by show k0 = k0 + ((totQ [] : Nat) : Int); simp [totQ], hO⟩
  case round =>
    clear hO hF
    obtain ⟨i, r, hi, rfl, rfl, hr, hO⟩ := hrel
    have hF := True.intro
    by_cases hend : i = N
    · subst hend
      have HR := hid (show r = k0 + totQ cs from by
        have hl := HC.out.1
        rw [hr.out, List.take_of_length_le (by omega)])
      go_wp2_with fail
      go_ret
      exact ⟨by rw [← HR.out]; rfl, hO.base⟩
    · have hlt : i < N := by omega
      have hlt2 : (i : Int) < N := by omega
      have hi0 : (0 : Int) ≤ (i : Int) := by omega
      obtain ⟨b, off, rfl, _⟩ := hA (by omega)
      obtain ⟨⟨ev, kk, ys⟩, hp⟩ : ∃ p, cs[i]? = some p := ⟨_, List.getElem?_eq_getElem (by have := HC.out.1; omega)⟩
      have c0 := (HS.out.below hO.base).cellAt (show X[i]? = some ev by rw [← HC.out.2, List.getElem?_map, hp]; rfl)
      have hsl := HM.out i _ hp
      dsimp only at hsl
      rw [← hr.out] at hsl
      have htk : cs.take (i + 1) = cs.take i ++ [(ev, kk, ys)] := by rw [List.take_add_one, hp]; rfl
      have ht1 := totQ_take cs (i + 1)
      rw [htk, totQ_append] at ht1
      have ht2 : totQ [(ev, kk, ys)] = ys.length := by simp [totQ]
      rw [ht2] at ht1
      have hen := HE.out
      have hrr := hr.out
      have hpl := hsl.1
      rw [mkTo_length] at hpl
      have r0 : 0 ≤ r := by omega
      have rb : r ≤ 10000000 := by omega
      have kb : kk ≤ 1000000000 := by omega
      have r1 : ¬ (r + (ys.length : Int) < 0) := by omega
      have HN := hid (show r + (ys.length : Int) = k0 + totQ (cs.take (i + 1)) from by rw [htk, totQ_append, ht2, hr.out]; push_cast; omega)
      have HH := hid (fun W (hW : Below w.heap.size w W) => heldPS_mk ev kk ys r W (hsl.below hW) r0 rb kb)
      obtain ⟨x, hx⟩ : ∃ x, r + (ys.length : Int) = x := ⟨_, rfl⟩
      rw [hx] at HN HH r1
      clear hend hp hsl htk ht1 ht2 hen hrr hpl hx
      go_wp2_with (go_at_call 28; refine (HH.out _ hO.base).mono ?_; rintro e w1 ⟨rfl, rfl⟩)
      go_roundw
      case rel => exact ⟨i + 1, x, by omega, by go_num, rfl, HN.out, hO⟩
      case measure => simp [intOf]; omega
end Go.Proofs.YtfiodejbeeblgaaDoor
