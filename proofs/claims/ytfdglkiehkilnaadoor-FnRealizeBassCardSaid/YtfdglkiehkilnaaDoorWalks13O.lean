/- Chapter 13 in the program: the chords over the tones of a figure. -/
import Derived.Test.YtfdglkiehkilnaaDoorWalks13V
import Derived.Test.YtfdglkiehkilnaaDoorWalks13T
import Derived.Test.YtfdglkiehkilnaaDoorRegionD
namespace Go.Proofs.YtfdglkiehkilnaaDoor
set_option linter.unusedSimpArgs false
set_option linter.unusedVariables false
set_option maxRecDepth 8000
open Go.RowKit Go.Joins

theorem vcI_is {v : Nat} {va : Value} {ts A : List Pt} {r n : Nat} {w : World} (hv1 : 1 ≤ v) (hv3 : v ≤ 3) (hr : ts.length = r) (h4 : r ≤ 4) (hp : ∀ t ∈ ts, pvP t = true) (hA : vtL v ts = A) (hn : A.length = n) (hs : SlAt w va r 3 (pcC ts)) (hT : TabH w) (hV : TabV w) (W : World) (hW : Below w.heap.size w W) :
    Calls Tryd.prog 103 #[.int .i64 v, va] W (RowOut 29 3 n (pcC A) W) := by
  subst hr hn hA
  exact vcI_any v va ts W hv1 hv3 (hs.below hW) h4 hp (hT.below hW) (hV.below hW)
theorem vt_has {v : Nat} {T : List Pt} {y : Pt} (h : y ∈ vtL v T) : hasB T y = true := by
  unfold vtL vtK at h
  obtain ⟨k, _, h⟩ := List.mem_flatMap.1 h
  obtain ⟨t, ht, h⟩ := List.mem_flatMap.1 h
  unfold vtO at h
  split at h
  · obtain rfl := List.mem_singleton.1 h
    exact hasB_iff.2 ⟨t, ht, rfl, rfl⟩
  · cases h
theorem vtL_len {v : Nat} {T : List Pt} (h : T.length ≤ 4) : (vtL v T).length ≤ 80 := by
  have := vtK_len (loZ v) T 20
  unfold vtL
  omega
theorem take_flat {α β : Type} (F : α → List β) {l : List α} {i : Nat} {a : α} (h : l[i]? = some a) : (l.take (i + 1)).flatMap F = (l.take i).flatMap F ++ F a := by
  rw [List.take_add_one, h, List.flatMap_append]; simp
theorem flat_len {α β : Type} {F : α → List β} {m : Nat} (h : ∀ a, (F a).length ≤ m) : ∀ l : List α, (l.flatMap F).length ≤ l.length * m
  | [] => by simp
  | a :: l => by
    rw [List.flatMap_cons, List.length_append, List.length_cons, Nat.add_mul, Nat.one_mul]
    have := flat_len h l
    have := h a
    omega
noncomputable def pk3 (x : Pt) (T : List Pt) (s t h : Pt) : List (List Pt) := if okS T [x, s, t, h] = true then [[x, s, t, h]] else []
noncomputable def pk2 (x : Pt) (T : List Pt) (s t : Pt) : List (List Pt) := (vtL 3 T).flatMap (pk3 x T s t)
noncomputable def pk1 (x : Pt) (T : List Pt) (s : Pt) : List (List Pt) := (vtL 2 T).flatMap (pk2 x T s)
theorem pk_is (x : Pt) (T : List Pt) : pkL x T = (vtL 1 T).flatMap (pk1 x T) := rfl
theorem pk3_len (x : Pt) (T : List Pt) (s t h : Pt) : (pk3 x T s t h).length ≤ 1 := by unfold pk3; split <;> simp
theorem pk2_len {x : Pt} {T : List Pt} (h4 : T.length ≤ 4) (s t : Pt) : (pk2 x T s t).length ≤ 80 := by
  have := flat_len (pk3_len x T s t) (vtL 3 T)
  have := vtL_len (v := 3) h4
  unfold pk2
  omega
theorem pk1_len {x : Pt} {T : List Pt} (h4 : T.length ≤ 4) (s : Pt) : (pk1 x T s).length ≤ 6400 := by
  have := flat_len (pk2_len (x := x) h4 s) (vtL 2 T)
  have := vtL_len (v := 2) h4
  unfold pk1
  omega
theorem sd_ok {x y1 y2 y3 : Pt} {T : List Pt} (h0 : T[0]? = some x) (h1 : y1 ∈ vtL 1 T) (h2 : y2 ∈ vtL 2 T) (h3 : y3 ∈ vtL 3 T) : okS T [x, y1, y2, y3] = (sdB [x, y1, y2, y3] T && decide (stZ [x, y1, y2, y3] = 0)) := by
  have hl : 0 < T.length := (List.getElem?_eq_some_iff.1 h0).1
  have ha : [x, y1, y2, y3].all (hasB T) = true := by
    simp only [List.all_cons, List.all_nil, Bool.and_true]
    rw [vt_has h1, vt_has h2, vt_has h3, hasB_iff.2 ⟨x, List.mem_of_getElem? h0, rfl, rfl⟩]
    rfl
  unfold okS sdB
  rw [ha, h0, Bool.and_true, decide_eq_true hl, Bool.and_comm]
  simp
theorem head_blk {n : Nat} {B : World → Prop} {w : World} {b : Nat} {vs : List Value} {L : List Item} (_h : Own n B w (.blk b vs :: L)) : ∃ q, b = q := ⟨_, rfl⟩
theorem own_in1 {n : Nat} {B : World → Prop} {w : World} {x s : Item} {U R : List Item} (h : Own n B w (x :: s :: (U ++ R))) : Own n B w (s :: (U ++ (x :: R))) :=
  h.perm ((List.Perm.swap _ _ _).trans (List.Perm.cons _ (List.perm_middle (l₁ := U)).symm))
theorem own_in2 {n : Nat} {B : World → Prop} {w : World} {x y s : Item} {U R : List Item} (h : Own n B w (x :: y :: s :: (U ++ R))) : Own n B w (s :: (U ++ (x :: y :: R))) :=
  own_in1 (h.perm (List.Perm.cons _ (List.Perm.refl _)) |> fun h => (h.perm (List.Perm.cons _ ((List.Perm.swap _ _ _).trans (List.Perm.cons _ (List.perm_middle (l₁ := U)).symm)))))

set_option maxRecDepth 20000 in
set_option maxHeartbeats 16000000 in
theorem soI_in (va : Value) (x : Pt) (T : List Pt) (w : World) (hs : SlAt w va T.length 3 (pcC T)) (h0 : T[0]? = some x) (h4 : T.length ≤ 4) (hp : ∀ t ∈ T, pvP t = true) (hT : TabH w) (hV : TabV w) :
    Calls Tryd.prog 81 #[va] w (StkOut (pkL x T) w) := by
  have hO := Own.start w
  have hF := True.intro
  obtain ⟨i1, hi1, hy0, hy1, hy2⟩ := info_parts infoSt
  obtain ⟨r, hr⟩ : ∃ r, T.length = r := ⟨_, rfl⟩
  have r0 : 0 < r := by rw [← hr]; exact (List.getElem?_eq_some_iff.1 h0).1
  have r0' : 0 < (r : Int) := by omega
  obtain ⟨A, cA, rfl, n9, hA⟩ := hs.open
  obtain ⟨bT, oT, rfl, _⟩ := hA (by omega)
  obtain ⟨l1, hl1⟩ : ∃ l, vtL 1 T = l := ⟨_, rfl⟩
  obtain ⟨l2, hl2⟩ : ∃ l, vtL 2 T = l := ⟨_, rfl⟩
  obtain ⟨l3, hl3⟩ : ∃ l, vtL 3 T = l := ⟨_, rfl⟩
  obtain ⟨m1, hm1⟩ : ∃ m, l1.length = m := ⟨_, rfl⟩
  obtain ⟨m2, hm2⟩ : ∃ m, l2.length = m := ⟨_, rfl⟩
  obtain ⟨m3, hm3⟩ : ∃ m, l3.length = m := ⟨_, rfl⟩
  have u1 : m1 ≤ 80 := by rw [← hm1, ← hl1]; exact vtL_len h4
  have u2 : m2 ≤ 80 := by rw [← hm2, ← hl2]; exact vtL_len h4
  have u3 : m3 ≤ 80 := by rw [← hm3, ← hl3]; exact vtL_len h4
  have HM := hid (And.intro hm1 (And.intro hm2 hm3))
  have HL := hid (And.intro hl1 (And.intro hl2 hl3))
  rw [hr] at hs h4
  have HV1 := hid (show ∀ W, Below w.heap.size w W → Calls Tryd.prog 103 #[.int .i64 1, .slice (some ⟨bT, oT, none⟩) T.length cA] W (RowOut 29 3 m1 (pcC l1) W) from fun W hW => vcI_is (v := 1) (by omega) (by omega) hr h4 hp hl1 hm1 (by rw [hr]; exact hs) hT hV W hW)
  have HV2 := hid (show ∀ W, Below w.heap.size w W → Calls Tryd.prog 103 #[.int .i64 2, .slice (some ⟨bT, oT, none⟩) T.length cA] W (RowOut 29 3 m2 (pcC l2) W) from fun W hW => vcI_is (v := 2) (by omega) (by omega) hr h4 hp hl2 hm2 (by rw [hr]; exact hs) hT hV W hW)
  have HV3 := hid (show ∀ W, Below w.heap.size w W → Calls Tryd.prog 103 #[.int .i64 3, .slice (some ⟨bT, oT, none⟩) T.length cA] W (RowOut 29 3 m3 (pcC l3) W) from fun W hW => vcI_is (v := 3) (by omega) (by omega) hr h4 hp hl3 hm3 (by rw [hr]; exact hs) hT hV W hW)
  rw [hr] at HV1 HV2 HV3 n9 ⊢
  have HS := hid hs
  have H0 := hid h0
  have HR := hid hr
  have HK1 := hid (fun s => pk1_len (x := x) (T := T) (by rw [hr]; exact h4) s)
  have HK2 := hid (fun s t => pk2_len (x := x) (T := T) (by rw [hr]; exact h4) s t)
  have HTT := hid (And.intro hT hV)
  have HX0 := hid (fun W (hW : Below w.heap.size w W) => ptAt (hs.below hW) h0)
  have HE := hid (show pkL x T = l1.flatMap (pk1 x T) by rw [pk_is, hl1])
  have HE1 := hid (show ∀ s, pk1 x T s = l2.flatMap (pk2 x T s) from fun s => by unfold pk1; rw [hl2])
  have HE2 := hid (show ∀ s t, pk2 x T s t = l3.flatMap (pk3 x T s t) from fun s t => by unfold pk2; rw [hl3])
  rw [HE.out]
  clear hs hA h0 hr hl1 hl2 hl3 hm1 hm2 hm3 hp hT hV
  go_enter Tryd.func81, Tryd.ntmps81
  go_wp2_with ((go_at_call 103; apply own_at hO; (repeat (first | (with_reducible exact hO) | (with_reducible apply Own.alloc) | (with_reducible apply Own.drew) | ((with_reducible apply Own.set_at); (focus (show _ ≤ _; omega))))); have hG := hF; clear hF; clear hO; intro hO; refine own_call_row hO (fun hB => HV1.out _ hB) ?_; clear hO; intro v w1 hO; (try simp only [World.size_alloc1, World.size_drew, Nat.reduceAdd] at hO); (try simp only [upd, updI, List.map_cons, List.map_nil, eq_self, if_true, if_false, reduceIte, Nat.add_eq_left, Nat.left_eq_add, Nat.reduceEqDiff, List.set_cons_zero, List.set_cons_succ, hG] at hO); clear hG; have hF := hO; (try simp only [Own, Item.Holds, apartI, CellsAt, Nat.reduceAdd, Nat.zero_add, List.mem_cons, List.not_mem_nil, or_false, forall_eq_or_imp, forall_eq, ne_eq, false_imp_iff, implies_true, and_true] at hF)); obtain ⟨A1, c1, hv1⟩ := (SlAt.of_row hO.1.1).form; subst hv1)
  go_loopw [3, 14] (fun u t wr => ∃ (i : Nat) (es : List (Value × List Pt)), i ≤ m1 ∧ t = .int .i64 i ∧ Hid (lsO es = (l1.take i).flatMap (pk1 x T)) ∧ Own w.heap.size (Below w.heap.size w) wr (.row 23 1 u es.length (vsO es) :: (rwP es ++ [.row 29 3 (.slice A1 m1 c1) m1 (pcC l1)]))) (fun _ t _ => m1 - (intOf t).toNat)
  case atStart => exact ⟨0, [], by omega, rfl, rfl, Own.nilRow 23 1 hO⟩
  case round =>
    clear hO hF
    obtain ⟨i, es, hi, rfl, hes, hO⟩ := hrel
    have hF := True.intro
    by_cases he : i = m1
    · subst he
      have HN := hid (show lsO es = l1.flatMap (pk1 x T) by rw [hes.out, List.take_of_length_le (by have := HM.out.1; omega)])
      go_wp2_with fail
      go_ret
      exact StkOut.mk HN.out rfl hO
    · have hil : i < m1 := by omega
      have hil2 : (i : Int) < (m1 : Int) := by omega
      have hi0 : (0 : Int) ≤ (i : Int) := by omega
      obtain ⟨b1, o1, c6, hv6⟩ : ∃ b6 o6 c6, Value.slice A1 m1 c1 = .slice (some ⟨b6, o6, none⟩) m1 c6 := by
        rcases (SlAt.of_row (hO.holds (.row 29 3 (.slice A1 m1 c1) m1 (pcC l1)) (by simp))).2 with ⟨h, h0⟩ | ⟨b6, o6, c6, h1, _⟩
        · omega
        · exact ⟨b6, o6, c6, h1⟩
      cases hv6
      obtain ⟨y1, hy1'⟩ : ∃ y, l1[i]? = some y := ⟨_, List.getElem?_eq_getElem (by have := HM.out.1; omega)⟩
      have HY1 := hid hy1'
      obtain ⟨S0, hS0⟩ : ∃ S, (l1.take i).flatMap (pk1 x T) = S := ⟨_, rfl⟩
      have B0 := hid (show S0.length ≤ 512000 by
        rw [← hS0]
        have h1 := flat_len HK1.out (l1.take i)
        have h2 : (l1.take i).length * 6400 ≤ 80 * 6400 := Nat.mul_le_mul (by rw [List.length_take]; omega) (Nat.le_refl _)
        omega)
      have HU0 := hid (show (l1.take (i + 1)).flatMap (pk1 x T) = S0 ++ l2.flatMap (pk2 x T y1) by rw [take_flat _ hy1', hS0, HE1.out])
      have HS0 := hid (hes.out.trans hS0)
      have ⟨d0, d1, d2⟩ := ptAt (SlAt.of_row (hO.holds (.row 29 3 (.slice (some ⟨b1, o1, none⟩) m1 c1) m1 (pcC l1)) (by simp))) hy1'
      clear he hS0 hes hy1'
      go_wp2_with ((go_at_call 103; apply own_at hO; (repeat (first | (with_reducible exact hO) | (with_reducible apply Own.alloc) | (with_reducible apply Own.drew) | ((with_reducible apply Own.set_at); (focus (show _ ≤ _; omega))))); have hG := hF; clear hF; clear hO; intro hO; refine own_call_row hO (fun hB => HV2.out _ hB) ?_; clear hO; intro v w1 hO; (try simp only [World.size_alloc1, World.size_drew, Nat.reduceAdd] at hO); (try simp only [upd, updI, List.map_cons, List.map_nil, eq_self, if_true, if_false, reduceIte, Nat.add_eq_left, Nat.left_eq_add, Nat.reduceEqDiff, List.set_cons_zero, List.set_cons_succ, hG] at hO); clear hG; have hF := hO; (try simp only [Own, Item.Holds, apartI, CellsAt, Nat.reduceAdd, Nat.zero_add, List.mem_cons, List.not_mem_nil, or_false, forall_eq_or_imp, forall_eq, ne_eq, false_imp_iff, implies_true, and_true] at hF)); obtain ⟨A2, c2, hv2⟩ := (SlAt.of_row hO.1.1).form; subst hv2)
      obtain ⟨q5, hq5⟩ := head_blk hO.2
      rw [hq5] at hO ⊢
      clear hq5 d0 d1 d2
      replace hO := own_in2 hO
      go_loopw [3, 21] (fun u t ws => ∃ (j : Nat) (es : List (Value × List Pt)), j ≤ m2 ∧ t = .int .i64 j ∧ Hid (lsO es = S0 ++ (l2.take j).flatMap (pk2 x T y1)) ∧ Own w.heap.size (Below w.heap.size w) ws (.row 23 1 u es.length (vsO es) :: (rwP es ++ [.row 29 3 (.slice A2 m2 c2) m2 (pcC l2), .blk q5 [.int .i64 y1.s, .int .i64 y1.a, .int .i64 y1.o], .row 29 3 (.slice (some ⟨b1, o1, none⟩) m1 c1) m1 (pcC l1)]))) (fun _ t _ => m2 - (intOf t).toNat)
      case atStart => exact ⟨0, es, by omega, rfl, by show lsO es = S0 ++ []; rw [List.append_nil]; exact HS0.out, hO⟩
      case round =>
        clear hO HS0 hF
        obtain ⟨j, es, hj, rfl, hes, hO⟩ := hrel
        have hF := True.intro
        by_cases he : j = m2
        · subst he
          have HN := hid (show lsO es = (l1.take (i + 1)).flatMap (pk1 x T) by rw [HU0.out, hes.out, List.take_of_length_le (by have := HM.out.2.1; omega)])
          go_wp2_with fail
          go_roundw
          case rel => exact ⟨i + 1, es, by omega, by go_num, HN.out, Own.sub (.cons_cons _ (List.Sublist.append_left (.cons _ (.cons _ (.refl _))) _)) hO⟩
          case measure => simp [intOf]; omega
        · have hjl : j < m2 := by omega
          have hjl2 : (j : Int) < (m2 : Int) := by omega
          have hj0 : (0 : Int) ≤ (j : Int) := by omega
          obtain ⟨b2, o2, c7, hv7⟩ : ∃ b6 o6 c6, Value.slice A2 m2 c2 = .slice (some ⟨b6, o6, none⟩) m2 c6 := by
            rcases (SlAt.of_row (hO.holds (.row 29 3 (.slice A2 m2 c2) m2 (pcC l2)) (by simp))).2 with ⟨h, h0⟩ | ⟨b6, o6, c6, h1, _⟩
            · omega
            · exact ⟨b6, o6, c6, h1⟩
          cases hv7
          obtain ⟨y2, hy2'⟩ : ∃ y, l2[j]? = some y := ⟨_, List.getElem?_eq_getElem (by have := HM.out.2.1; omega)⟩
          have HY2 := hid hy2'
          obtain ⟨S1, hS1⟩ : ∃ S, S0 ++ (l2.take j).flatMap (pk2 x T y1) = S := ⟨_, rfl⟩
          have B1 := hid (show S1.length ≤ 518400 by
            rw [← hS1, List.length_append]
            have h1 := flat_len (HK2.out y1) (l2.take j)
            have h2 : (l2.take j).length * 80 ≤ 80 * 80 := Nat.mul_le_mul (by rw [List.length_take]; omega) (Nat.le_refl _)
            have := B0.out
            omega)
          have HU1 := hid (show S0 ++ (l2.take (j + 1)).flatMap (pk2 x T y1) = S1 ++ l3.flatMap (pk3 x T y1 y2) by rw [take_flat _ hy2', ← List.append_assoc, hS1, HE2.out])
          have HS1 := hid (hes.out.trans hS1)
          have ⟨d0, d1, d2⟩ := ptAt (SlAt.of_row (hO.holds (.row 29 3 (.slice (some ⟨b2, o2, none⟩) m2 c2) m2 (pcC l2)) (by simp))) hy2'
          clear he hS1 hes hy2'
          go_wp2_with ((go_at_call 103; apply own_at hO; (repeat (first | (with_reducible exact hO) | (with_reducible apply Own.alloc) | (with_reducible apply Own.drew) | ((with_reducible apply Own.set_at); (focus (show _ ≤ _; omega))))); have hG := hF; clear hF; clear hO; intro hO; refine own_call_row hO (fun hB => HV3.out _ hB) ?_; clear hO; intro v w1 hO; (try simp only [World.size_alloc1, World.size_drew, Nat.reduceAdd] at hO); (try simp only [upd, updI, List.map_cons, List.map_nil, eq_self, if_true, if_false, reduceIte, Nat.add_eq_left, Nat.left_eq_add, Nat.reduceEqDiff, List.set_cons_zero, List.set_cons_succ, hG] at hO); clear hG; have hF := hO; (try simp only [Own, Item.Holds, apartI, CellsAt, Nat.reduceAdd, Nat.zero_add, List.mem_cons, List.not_mem_nil, or_false, forall_eq_or_imp, forall_eq, ne_eq, false_imp_iff, implies_true, and_true] at hF)); obtain ⟨A3, c3, hv3⟩ := (SlAt.of_row hO.1.1).form; subst hv3)
          obtain ⟨q7, hq7⟩ := head_blk hO.2
          rw [hq7] at hO ⊢
          clear hq7 d0 d1 d2
          replace hO := own_in2 hO
          go_loopw [3, 28] (fun u t ws => ∃ (k : Nat) (es : List (Value × List Pt)), k ≤ m3 ∧ t = .int .i64 k ∧ Hid (lsO es = S1 ++ (l3.take k).flatMap (pk3 x T y1 y2)) ∧ Own w.heap.size (Below w.heap.size w) ws (.row 23 1 u es.length (vsO es) :: (rwP es ++ [.row 29 3 (.slice A3 m3 c3) m3 (pcC l3), .blk q7 [.int .i64 y2.s, .int .i64 y2.a, .int .i64 y2.o], .row 29 3 (.slice (some ⟨b2, o2, none⟩) m2 c2) m2 (pcC l2), .blk q5 [.int .i64 y1.s, .int .i64 y1.a, .int .i64 y1.o], .row 29 3 (.slice (some ⟨b1, o1, none⟩) m1 c1) m1 (pcC l1)]))) (fun _ t _ => m3 - (intOf t).toNat)
          case atStart => exact ⟨0, es, by omega, rfl, by show lsO es = S1 ++ []; rw [List.append_nil]; exact HS1.out, hO⟩
          case round =>
            clear hO HS1 hF
            obtain ⟨k, es, hk, rfl, hes, hO⟩ := hrel
            have hF := True.intro
            by_cases he : k = m3
            · subst he
              have HN := hid (show lsO es = S0 ++ (l2.take (j + 1)).flatMap (pk2 x T y1) by rw [HU1.out, hes.out, List.take_of_length_le (by have := HM.out.2.2; omega)])
              go_wp2_with fail
              go_roundw
              case rel => exact ⟨j + 1, es, by omega, by go_num, HN.out, Own.sub (.cons_cons _ (List.Sublist.append_left (.cons _ (.cons _ (.refl _))) _)) hO⟩
              case measure => simp [intOf]; omega
            · have hkl : k < m3 := by omega
              have hkl2 : (k : Int) < (m3 : Int) := by omega
              have hk0 : (0 : Int) ≤ (k : Int) := by omega
              obtain ⟨b3, o3, c8, hv8⟩ : ∃ b6 o6 c6, Value.slice A3 m3 c3 = .slice (some ⟨b6, o6, none⟩) m3 c6 := by
                rcases (SlAt.of_row (hO.holds (.row 29 3 (.slice A3 m3 c3) m3 (pcC l3)) (by simp))).2 with ⟨h, h0⟩ | ⟨b6, o6, c6, h1, _⟩
                · omega
                · exact ⟨b6, o6, c6, h1⟩
              cases hv8
              obtain ⟨y3, hy3'⟩ : ∃ y, l3[k]? = some y := ⟨_, List.getElem?_eq_getElem (by have := HM.out.2.2; omega)⟩
              have hsd := sd_ok (x := x) (T := T) H0.out (by rw [HL.out.1]; exact List.mem_of_getElem? HY1.out) (by rw [HL.out.2.1]; exact List.mem_of_getElem? HY2.out) (by rw [HL.out.2.2]; exact List.mem_of_getElem? hy3')
              have ⟨d0, d1, d2⟩ := ptAt (SlAt.of_row (hO.holds (.row 29 3 (.slice (some ⟨b3, o3, none⟩) m3 c3) m3 (pcC l3)) (by simp))) hy3'
              obtain ⟨z, hz⟩ : ∃ z, stZ [x, y1, y2, y3] = z := ⟨_, rfl⟩
              obtain ⟨du, hdu⟩ : ∃ b, sdB [x, y1, y2, y3] T = b := ⟨_, rfl⟩
              rw [hz, hdu] at hsd
              have HUP := hid (show S1 ++ (l3.take (k + 1)).flatMap (pk3 x T y1 y2) = (S1 ++ (l3.take k).flatMap (pk3 x T y1 y2)) ++ (if (du && decide (z = 0)) = true then [[x, y1, y2, y3]] else []) by
                rw [take_flat _ hy3', ← List.append_assoc]; unfold pk3; rw [hsd])
              have hel : es.length ≤ 518480 := by
                have h1 : (lsO es).length = es.length := List.length_map ..
                rw [← h1, hes.out, List.length_append]
                have h3 := flat_len (pk3_len x T y1 y2) (l3.take k)
                have h2 : (l3.take k).length ≤ 80 := by rw [List.length_take]; omega
                have := B1.out
                omega
              have HSD := hid (fun va vb W (ha : SlAt W va 4 3 (pcC [x, y1, y2, y3])) (hb : SlAt W vb r 3 (pcC T)) => sdI_is (m := 4) rfl HR.out (by omega) (by omega) (fun _ => by omega) hdu va vb W ha hb)
              have HSF := hid (fun va W (hW : Below w.heap.size w W) (ha : SlAt W va 4 3 (pcC [x, y1, y2, y3])) => stI_is (n := 4) (HTT.out.1.below hW) (HTT.out.2.below hW) rfl (by omega) hz ha W (Below.refl _ _))
              clear he hy3' hz hdu hsd
              go_wp2_with fail
              clear d0 d1 d2
              apply own_code hO
              (repeat (first | (with_reducible exact hO) | (with_reducible apply Own.alloc) | (with_reducible apply Own.drew) | ((with_reducible apply Own.set_at); (focus (show _ ≤ _; omega)))))
              have hG := hF; clear hF; clear hO; intro hO
              (try simp only [World.size_alloc1, World.size_drew, Nat.reduceAdd] at hO); (try simp only [upd, updI, List.map_cons, List.map_nil, eq_self, if_true, if_false, reduceIte, Nat.add_eq_left, Nat.left_eq_add, Nat.reduceEqDiff, List.set_cons_zero, List.set_cons_succ, hG] at hO); clear hG
              refine region_own (X := fun _ => True) [6] (by kernel_rfl) (hO) (trivial) (by first | exact XStab.true | exact XStab.rd | exact XStab.rdIf) ?_
              clear hO
              refine Sim.sP (i := 0) (d := some 32) (h := ?_)
              refine Sim.sP (i := 1) (d := some 33) (h := ?_)
              refine Sim.sO (i := 2) (d := some 34) (v := ?_) (hy := ?_) (h := ?_)
              rotate_left
              · first | refine Or.inl ⟨by rfl, fun w hO => ?_⟩ | (refine Or.inr ⟨by rfl, ?_⟩; with_reducible rfl)
                first | done | (have hF := hO; (try simp only [Own, Item.Holds, apartI, CellsAt, Nat.reduceAdd, Nat.zero_add, List.mem_cons, List.not_mem_nil, or_false, forall_eq_or_imp, forall_eq, ne_eq, false_imp_iff, implies_true, and_true] at hF); ((have ⟨x0, x1, x2⟩ := HX0.out _ hO.base; have g0 := own_ints (b := q5) (k := 0) [y1.s, y1.a, y1.o] hO (by simp) rfl; have g1 := own_ints (b := q5) (k := 1) [y1.s, y1.a, y1.o] hO (by simp) rfl; have g2 := own_ints (b := q5) (k := 2) [y1.s, y1.a, y1.o] hO (by simp) rfl; have g3 := own_ints (b := q7) (k := 0) [y2.s, y2.a, y2.o] hO (by simp) rfl; have g4 := own_ints (b := q7) (k := 1) [y2.s, y2.a, y2.o] hO (by simp) rfl; have g5 := own_ints (b := q7) (k := 2) [y2.s, y2.a, y2.o] hO (by simp) rfl; simp only [Nat.zero_mul, Nat.add_zero] at x0 x1 x2)); refine Out.same ?_; go_simp; all_goals with_reducible rfl)
              refine Sim.sO (i := 3) (d := some 35) (v := ?_) (hy := ?_) (h := ?_)
              rotate_left
              · first | refine Or.inl ⟨by rfl, fun w hO => ?_⟩ | (refine Or.inr ⟨by rfl, ?_⟩; with_reducible rfl)
                first | done | (have hF := hO; (try simp only [Own, Item.Holds, apartI, CellsAt, Nat.reduceAdd, Nat.zero_add, List.mem_cons, List.not_mem_nil, or_false, forall_eq_or_imp, forall_eq, ne_eq, false_imp_iff, implies_true, and_true] at hF); ((have ⟨x0, x1, x2⟩ := HX0.out _ hO.base; have g0 := own_ints (b := q5) (k := 0) [y1.s, y1.a, y1.o] hO (by simp) rfl; have g1 := own_ints (b := q5) (k := 1) [y1.s, y1.a, y1.o] hO (by simp) rfl; have g2 := own_ints (b := q5) (k := 2) [y1.s, y1.a, y1.o] hO (by simp) rfl; have g3 := own_ints (b := q7) (k := 0) [y2.s, y2.a, y2.o] hO (by simp) rfl; have g4 := own_ints (b := q7) (k := 1) [y2.s, y2.a, y2.o] hO (by simp) rfl; have g5 := own_ints (b := q7) (k := 2) [y2.s, y2.a, y2.o] hO (by simp) rfl; simp only [Nat.zero_mul, Nat.add_zero] at x0 x1 x2)); refine Out.same ?_; go_simp; all_goals with_reducible rfl)
              refine Sim.sO (i := 4) (d := some 36) (v := ?_) (hy := ?_) (h := ?_)
              rotate_left
              · first | refine Or.inl ⟨by rfl, fun w hO => ?_⟩ | (refine Or.inr ⟨by rfl, ?_⟩; with_reducible rfl)
                first | done | (have hF := hO; (try simp only [Own, Item.Holds, apartI, CellsAt, Nat.reduceAdd, Nat.zero_add, List.mem_cons, List.not_mem_nil, or_false, forall_eq_or_imp, forall_eq, ne_eq, false_imp_iff, implies_true, and_true] at hF); ((have ⟨x0, x1, x2⟩ := HX0.out _ hO.base; have g0 := own_ints (b := q5) (k := 0) [y1.s, y1.a, y1.o] hO (by simp) rfl; have g1 := own_ints (b := q5) (k := 1) [y1.s, y1.a, y1.o] hO (by simp) rfl; have g2 := own_ints (b := q5) (k := 2) [y1.s, y1.a, y1.o] hO (by simp) rfl; have g3 := own_ints (b := q7) (k := 0) [y2.s, y2.a, y2.o] hO (by simp) rfl; have g4 := own_ints (b := q7) (k := 1) [y2.s, y2.a, y2.o] hO (by simp) rfl; have g5 := own_ints (b := q7) (k := 2) [y2.s, y2.a, y2.o] hO (by simp) rfl; simp only [Nat.zero_mul, Nat.add_zero] at x0 x1 x2)); refine Out.same ?_; go_simp; all_goals with_reducible rfl)
              refine Sim.sO (i := 5) (d := some 37) (v := ?_) (hy := ?_) (h := ?_)
              rotate_left
              · first | refine Or.inl ⟨by rfl, fun w hO => ?_⟩ | (refine Or.inr ⟨by rfl, ?_⟩; with_reducible rfl)
                first | done | (have hF := hO; (try simp only [Own, Item.Holds, apartI, CellsAt, Nat.reduceAdd, Nat.zero_add, List.mem_cons, List.not_mem_nil, or_false, forall_eq_or_imp, forall_eq, ne_eq, false_imp_iff, implies_true, and_true] at hF); ((have ⟨x0, x1, x2⟩ := HX0.out _ hO.base; have g0 := own_ints (b := q5) (k := 0) [y1.s, y1.a, y1.o] hO (by simp) rfl; have g1 := own_ints (b := q5) (k := 1) [y1.s, y1.a, y1.o] hO (by simp) rfl; have g2 := own_ints (b := q5) (k := 2) [y1.s, y1.a, y1.o] hO (by simp) rfl; have g3 := own_ints (b := q7) (k := 0) [y2.s, y2.a, y2.o] hO (by simp) rfl; have g4 := own_ints (b := q7) (k := 1) [y2.s, y2.a, y2.o] hO (by simp) rfl; have g5 := own_ints (b := q7) (k := 2) [y2.s, y2.a, y2.o] hO (by simp) rfl; simp only [Nat.zero_mul, Nat.add_zero] at x0 x1 x2)); refine Out.same ?_; go_simp; all_goals with_reducible rfl)
              refine Sim.one' (i := 6) (oi := { dst := some 38, op := Op.buildSlice 23 4 #[(0, Operand.tmp 34), (1, Operand.tmp 35), (2, Operand.tmp 36), (3, Operand.tmp 37)], type := 23, pos := "l13_figured_bass.go:80", after := #[{ on := 2, ground := Ground.data }, { on := 3, ground := Ground.data }, { on := 4, ground := Ground.data }, { on := 5, ground := Ground.data }], guard := none }) (by kernel_rfl) rfl (by rfl) (fun w0 hO hX K hK => ?_)
              (have hF := hO; (try simp only [Own, Item.Holds, apartI, CellsAt, Nat.reduceAdd, Nat.zero_add, List.mem_cons, List.not_mem_nil, or_false, forall_eq_or_imp, forall_eq, ne_eq, false_imp_iff, implies_true, and_true] at hF))
              go_simp
              apply hK _ _ _ (fun _ => True)
              · exact hO.allocRow (e := 29) (k := 4) (cap := 4) 3 (by omega) (by unfold maxLen; omega) rfl
              · exact trivial
              · exact XStab.true
              · first | exact fun _ _ h => h.2 | exact fun h => absurd h (by decide)
              clear hO hF
              clear hK K
              try simp only [Act.put, List.setIfInBounds_toArray, List.set_cons_zero, List.set_cons_succ]
              refine Sim.sP (i := 7) (d := some 10) (h := ?_)
              refine Sim.done (by kernel_rfl) (fun w1 hO hX => ?_) _
              (try simp only [World.size_alloc1, World.size_drew, Nat.reduceAdd] at hO); (try simp only [upd, updI, List.map_cons, List.map_nil, eq_self, if_true, if_false, reduceIte, Nat.add_eq_left, Nat.left_eq_add, Nat.reduceEqDiff, List.set_cons_zero, List.set_cons_succ] at hO)
              have hF := hO; (try simp only [Own, Item.Holds, apartI, CellsAt, Nat.reduceAdd, Nat.zero_add, List.mem_cons, List.not_mem_nil, or_false, forall_eq_or_imp, forall_eq, ne_eq, false_imp_iff, implies_true, and_true] at hF)
              all_goals
                cases du
                · have HN := hid (show lsO es = S1 ++ (l3.take (k + 1)).flatMap (pk3 x T y1 y2) by rw [HUP.out, hes.out]; simp)
                  go_wp2_with (go_at_call 86; apply own_at hO; (repeat (first | (with_reducible exact hO) | (with_reducible apply Own.alloc) | (with_reducible apply Own.drew) | ((with_reducible apply Own.set_at); (focus (show _ ≤ _; omega))))); have hG := hF; clear hF; clear hO; intro hO; refine own_callO hO (fun hW => HSD.out _ _ _ (SlAt.of_row hW.1.1) (HS.out.below hW.base)) ?_; clear hO; intro w1 hO; (try simp only [World.size_alloc1, World.size_drew, Nat.reduceAdd] at hO); (try simp only [upd, updI, List.map_cons, List.map_nil, eq_self, if_true, if_false, reduceIte, Nat.add_eq_left, Nat.left_eq_add, Nat.reduceEqDiff, List.set_cons_zero, List.set_cons_succ, hG] at hO); clear hG; have hF := hO; (try simp only [Own, Item.Holds, apartI, CellsAt, Nat.reduceAdd, Nat.zero_add, List.mem_cons, List.not_mem_nil, or_false, forall_eq_or_imp, forall_eq, ne_eq, false_imp_iff, implies_true, and_true] at hF))
                  go_roundw
                  case rel => exact ⟨k + 1, es, by omega, by go_num, HN.out, Own.sub (.cons _ (.cons _ (.refl _))) hO⟩
                  case measure => simp [intOf]; omega
                · by_cases hz0 : z = 0
                  · subst hz0
                    have HN := hid (fun (V : Value) => show lsO (es ++ [(V, [x, y1, y2, y3])]) = S1 ++ (l3.take (k + 1)).flatMap (pk3 x T y1 y2) by rw [HUP.out, ← hes.out]; simp [lsO])
                    go_wp2_with (first | (go_at_call 86; apply own_at hO; (repeat (first | (with_reducible exact hO) | (with_reducible apply Own.alloc) | (with_reducible apply Own.drew) | ((with_reducible apply Own.set_at); (focus (show _ ≤ _; omega))))); have hG := hF; clear hF; clear hO; intro hO; refine own_callO hO (fun hW => HSD.out _ _ _ (SlAt.of_row hW.1.1) (HS.out.below hW.base)) ?_; clear hO; intro w1 hO; (try simp only [World.size_alloc1, World.size_drew, Nat.reduceAdd] at hO); (try simp only [upd, updI, List.map_cons, List.map_nil, eq_self, if_true, if_false, reduceIte, Nat.add_eq_left, Nat.left_eq_add, Nat.reduceEqDiff, List.set_cons_zero, List.set_cons_succ, hG] at hO); clear hG; have hF := hO; (try simp only [Own, Item.Holds, apartI, CellsAt, Nat.reduceAdd, Nat.zero_add, List.mem_cons, List.not_mem_nil, or_false, forall_eq_or_imp, forall_eq, ne_eq, false_imp_iff, implies_true, and_true] at hF)) | (go_at_call 34; apply own_at hO; (repeat (first | (with_reducible exact hO) | (with_reducible apply Own.alloc) | (with_reducible apply Own.drew) | ((with_reducible apply Own.set_at); (focus (show _ ≤ _; omega))))); have hG := hF; clear hF; clear hO; intro hO; refine own_callO hO (fun hW => HSF.out _ _ hW.base (SlAt.of_row hW.1.1)) ?_; clear hO; intro w1 hO; (try simp only [World.size_alloc1, World.size_drew, Nat.reduceAdd] at hO); (try simp only [upd, updI, List.map_cons, List.map_nil, eq_self, if_true, if_false, reduceIte, Nat.add_eq_left, Nat.left_eq_add, Nat.reduceEqDiff, List.set_cons_zero, List.set_cons_succ, hG] at hO); clear hG; have hF := hO; (try simp only [Own, Item.Holds, apartI, CellsAt, Nat.reduceAdd, Nat.zero_add, List.mem_cons, List.not_mem_nil, or_false, forall_eq_or_imp, forall_eq, ne_eq, false_imp_iff, implies_true, and_true] at hF)) | (at_builtin; apply own_list hO; (repeat (first | (with_reducible exact hO) | (with_reducible apply Own.alloc) | (with_reducible apply Own.drew) | ((with_reducible apply Own.set_at); (focus (show _ ≤ _; omega))))); have hG := hF; clear hF; clear hO; intro hO; (try simp only [World.size_alloc1, World.size_drew, Nat.reduceAdd] at hO); (try simp only [upd, updI, List.map_cons, List.map_nil, eq_self, if_true, if_false, reduceIte, Nat.add_eq_left, Nat.left_eq_add, Nat.reduceEqDiff, List.set_cons_zero, List.set_cons_succ, hG] at hO); clear hG; (try simp only [World.size_setCell] at hO); have hF := hO; (try simp only [Own, Item.Holds, apartI, CellsAt, Nat.reduceAdd, Nat.zero_add, List.mem_cons, List.not_mem_nil, or_false, forall_eq_or_imp, forall_eq, ne_eq, false_imp_iff, implies_true, and_true] at hF); replace hO := (Own.sub (.cons_cons _ (.cons_cons _ (.cons _ (.refl _)))) hO).perm (List.Perm.cons _ (List.Perm.swap _ _ _)); refine wpList_append_item rfl _ _ 49 rfl 23 i1 (.slice none 0 0) 1 24 Tryd.underlying49 hi1 hy0 hy1 hy2 rfl (by decide) rfl rfl hO rfl one1k (by unfold maxLen; omega) (by omega) ?_; clear hO hF; intro v' w2 hO _; have hF := True.intro))
                    go_roundw
                    case rel => exact ⟨k + 1, _, by omega, by go_num, HN.out _, stk_snoc (s := [x, y1, y2, y3]) hO⟩
                    case measure => simp [intOf]; omega
                  · have hz1' : (z == 0) = false := by simp [hz0]
                    have HN := hid (show lsO es = S1 ++ (l3.take (k + 1)).flatMap (pk3 x T y1 y2) by rw [HUP.out, hes.out]; simp [hz0])
                    go_wp2_with (first | (go_at_call 86; apply own_at hO; (repeat (first | (with_reducible exact hO) | (with_reducible apply Own.alloc) | (with_reducible apply Own.drew) | ((with_reducible apply Own.set_at); (focus (show _ ≤ _; omega))))); have hG := hF; clear hF; clear hO; intro hO; refine own_callO hO (fun hW => HSD.out _ _ _ (SlAt.of_row hW.1.1) (HS.out.below hW.base)) ?_; clear hO; intro w1 hO; (try simp only [World.size_alloc1, World.size_drew, Nat.reduceAdd] at hO); (try simp only [upd, updI, List.map_cons, List.map_nil, eq_self, if_true, if_false, reduceIte, Nat.add_eq_left, Nat.left_eq_add, Nat.reduceEqDiff, List.set_cons_zero, List.set_cons_succ, hG] at hO); clear hG; have hF := hO; (try simp only [Own, Item.Holds, apartI, CellsAt, Nat.reduceAdd, Nat.zero_add, List.mem_cons, List.not_mem_nil, or_false, forall_eq_or_imp, forall_eq, ne_eq, false_imp_iff, implies_true, and_true] at hF)) | (go_at_call 34; apply own_at hO; (repeat (first | (with_reducible exact hO) | (with_reducible apply Own.alloc) | (with_reducible apply Own.drew) | ((with_reducible apply Own.set_at); (focus (show _ ≤ _; omega))))); have hG := hF; clear hF; clear hO; intro hO; refine own_callO hO (fun hW => HSF.out _ _ hW.base (SlAt.of_row hW.1.1)) ?_; clear hO; intro w1 hO; (try simp only [World.size_alloc1, World.size_drew, Nat.reduceAdd] at hO); (try simp only [upd, updI, List.map_cons, List.map_nil, eq_self, if_true, if_false, reduceIte, Nat.add_eq_left, Nat.left_eq_add, Nat.reduceEqDiff, List.set_cons_zero, List.set_cons_succ, hG] at hO); clear hG; have hF := hO; (try simp only [Own, Item.Holds, apartI, CellsAt, Nat.reduceAdd, Nat.zero_add, List.mem_cons, List.not_mem_nil, or_false, forall_eq_or_imp, forall_eq, ne_eq, false_imp_iff, implies_true, and_true] at hF)))
                    go_roundw
                    case rel => exact ⟨k + 1, es, by omega, by go_num, HN.out, Own.sub (.cons _ (.cons _ (.refl _))) hO⟩
                    case measure => simp [intOf]; omega

end Go.Proofs.YtfdglkiehkilnaaDoor
