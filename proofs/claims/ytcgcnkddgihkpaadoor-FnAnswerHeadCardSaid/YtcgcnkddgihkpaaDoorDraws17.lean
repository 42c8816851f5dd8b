/- The functions that draw for the laws of chapter 17: voices, keys, numbers of notes. -/
import Derived.Test.YtcgcnkddgihkpaaDoorDrawsVo
import Derived.Test.YtcgcnkddgihkpaaDoorDrawsKey
import Derived.Test.YtcgcnkddgihkpaaDoorWalks11S
import Derived.Test.YtcgcnkddgihkpaaDoorWalks17S
namespace Go.Proofs.YtcgcnkddgihkpaaDoor
set_option linter.unusedSimpArgs false
set_option linter.unusedVariables false
set_option maxRecDepth 8000
open Go.RowKit

set_option maxHeartbeats 1000000 in
theorem DrawRealAnswer_any (v : Value) (n : Nat) (w : World) (hn : n ≤ maxLen) (h : BytesB w w.heap.size v n) :
    Calls Tryd.prog 15 #[v] w (DrewVs w) := by
  go_enter Tryd.func15, Tryd.ntmps15
  go_wp2_with fail
  refine (open_any v n _ hn h).mono ?_
  rintro e w1 ⟨r, hr, rfl, hR, hb⟩
  go_wp2_with fail
  refine (l20Voice_any r 0 _ _ hR (by omega) (by omega) (by omega)).mono ?_
  rintro e w2 ⟨u, vs, hv, hl, rfl, ho, hR2, hB2⟩
  have HO := hid (vs_own hb hr hB2 ho)
  have HV := hid hv
  clear hR hb h hn hR2 hB2 ho hv
  go_wp2
  go_ret
  exact ⟨u, vs, HV.out, hl, rfl, HO.out⟩

/-- What drawing a key, a voice and a number of notes leaves. -/
def DrewTa (w : World) (e : Ending) (w' : World) : Prop :=
  ∃ (f : Int) (m : Bool) (u : Value) (v : List Nt) (h : Int), (-8 ≤ f ∧ f ≤ 8) ∧ v.length ≤ 61 ∧ (-1 ≤ h ∧ h ≤ 62) ∧ e = .returned (.tuple #[.int .i64 f, .bool m, u, .int .i64 h]) ∧ Own w.heap.size (Below w.heap.size w) w' [.row 39 6 u v.length (vcC v)]

theorem vcC_tone17 : ∀ {l : List Nt} {k : Nat} {x : Nt} {s a o : Int}, l[k]? = some x → (((vcC l).set (k * 6 + 1) (.int .i64 s)).set (k * 6 + 2) (.int .i64 a)).set (k * 6 + 3) (.int .i64 o) = vcC (l.set k { x with s := s, a := a, o := o })
  | [], k, x, _, _, _, h => by simp at h
  | z :: l, 0, x, _, _, _, h => by
    simp only [List.getElem?_cons_zero, Option.some.injEq] at h
    subst h
    rfl
  | z :: l, k + 1, x, s, a, o, h => by
    have ih := vcC_tone17 (l := l) (k := k) (x := x) (s := s) (a := a) (o := o) (by simpa using h)
    rw [List.set_cons_succ, show ∀ y : List Nt, vcC (z :: y) = ntC z ++ vcC y from fun _ => rfl, show ∀ y : List Nt, vcC (z :: y) = ntC z ++ vcC y from fun _ => rfl, ← ih]
    have hz : (ntC z).length = 6 := rfl
    have g : ∀ (xs : List Value) (i : Nat) (v : Value), (ntC z ++ xs).set ((k + 1) * 6 + i) v = ntC z ++ xs.set (k * 6 + i) v := fun xs i v => by
      rw [List.set_append, if_neg (by omega), hz, show (k + 1) * 6 + i - 6 = k * 6 + i by omega]
    rw [g, g, g]
theorem tone_own17 {n0 n k q c : Nat} {B : World → Prop} {w : World} {l : List Nt} {x : Nt} (hO : Own n0 B w [.row 39 6 (.slice (some ⟨q, 0, none⟩) n c) n (vcC l)]) (hx : l[k]? = some x) (s a o : Int) :
    Own n0 B (((w.setCell ⟨q, k * 6 + 1, none⟩ (.int .i64 s)).setCell ⟨q, k * 6 + 1 + 1, none⟩ (.int .i64 a)).setCell ⟨q, k * 6 + 1 + 2, none⟩ (.int .i64 o)) [.row 39 6 (.slice (some ⟨q, 0, none⟩) n c) n (vcC (l.set k { x with s := s, a := a, o := o }))] := by
  have h4 := ((hO.row_set (k * 6 + 1) (.int .i64 s)).row_set (k * 6 + 2) (.int .i64 a)).row_set (k * 6 + 3) (.int .i64 o)
  rw [vcC_tone17 hx] at h4
  exact h4
/-- A tone of the chord on degree 4. -/
def q17 (i f : Int) (m : Bool) : Pt := plP f (28 + tonZ f m + 4 + i)
theorem co17 (f : Int) (m : Bool) (f0 : -7 ≤ f) (f1 : f ≤ 7) (W : World) : Calls Tryd.prog 52 #[.int .i64 f, .bool m, .int .i64 4, .bool false] W (RowOut 37 3 3 (pcC [q17 0 f m, q17 2 f m, q17 4 f m]) W) := by
  have h := coS_any f 4 m false W
  unfold coL coB at h
  rw [keyB_iff.2 ⟨f0, f1⟩] at h
  exact h
theorem results_tmp4v {fn : Func} {t u v x : Tmp} (h : fn.results = #[.tmp t, .tmp u, .tmp v, .tmp x]) (tmps : Array Value) (P : Program) (w : World) :
    (results fn tmps).run P w = .ok (.tuple #[tmps.getD t undef, tmps.getD u undef, tmps.getD v undef, tmps.getD x undef]) w := by
  simp [results, h]

set_option maxRecDepth 20000 in
set_option maxHeartbeats 8000000 in
theorem DrawTonalAnswer_any (v : Value) (n0 : Nat) (w : World) (hn : n0 ≤ maxLen) (h : BytesB w w.heap.size v n0) :
    Calls Tryd.prog 21 #[v] w (DrewTa w) := by
  go_enter Tryd.func21, Tryd.ntmps21
  go_wp2_with fail
  refine (open_any v n0 _ hn h).mono ?_
  rintro e wd ⟨r, hr, rfl, hR, hb⟩
  have hr0 := hR.lt
  go_wp2_with fail
  refine (l20Fifths_any r 0 _ _ hR (by omega) (by omega) (by omega)).mono ?_
  rintro e wb ⟨f, hf, rfl, hR2, hB2⟩
  go_wp2_with fail
  refine (pick_any r (0 + 4) 2 _ hR2 (by omega) (by omega) (by omega)).mono ?_
  rintro e wc ⟨pm, pm0, pm1, rfl, hR3, hB3⟩
  go_wp2_with fail
  refine (l20Voice_any r (0 + 4 + 1) _ _ hR3 (by omega) (by omega) (by omega)).mono ?_
  rintro e we ⟨u, vs, hv, hl, rfl, ho, hR4, hB4⟩
  obtain ⟨n, hnl⟩ : ∃ n, vs.length = n := ⟨_, rfl⟩
  rw [hnl] at ho hl
  obtain ⟨m, hm⟩ : ∃ m, (pm == 0) = m := ⟨_, rfl⟩
  rw [hm]
  have hO : Own wd.heap.size (Bd r wd 505) we [.row 39 6 u n (vcC vs)] := ⟨⟨ownsRow_mono ho (hB2.trans hB3).size, fun _ h => by cases h⟩, Stab.bd hr0, hB2.trans (hB3.trans hB4), hR4⟩
  have hF := True.intro
  have HN := hid hnl
  have HB := hid (And.intro hb hr)
  clear hb hr hR hR2 hR3 hR4 hB2 hB3 hB4 ho hv hnl hm pm0 pm1 h hn
  obtain ⟨A, cp, hu⟩ := (SlAt.of_row hO.1.1).form
  subst hu
  go_wp2_with fail
  go_loopw [10] (fun t wr => ∃ (k : Nat) (l : List Nt), k ≤ n ∧ l.length = n ∧ t = .int .i64 k ∧ Own wd.heap.size (Bd r wd (505 + k)) wr [.row 39 6 (.slice A n cp) n (vcC l)]) (fun t _ => n - (intOf t).toNat)
  case atStart => exact ⟨0, vs, by omega, HN.out, rfl, by simpa using hO⟩
  case round =>
    clear hO hF
    obtain ⟨k, l, hk, hll, rfl, hO⟩ := hrel
    have hF := True.intro
    by_cases he : k = n
    · subst he
      have HL := hid hll
      have wn : IntKind.i64.wrap ((k : Int) + 2) = (k : Int) + 2 := IntWalk.i64_in _ (by omega)
      clear hll
      go_wp2_with fail
      (go_at_call 51; apply own_at hO; (repeat (first | (with_reducible exact hO) | (with_reducible apply Own.alloc) | (with_reducible apply Own.drew) | ((with_reducible apply Own.set_at); (focus (show _ ≤ _; omega))))); have hG := hF; clear hF; clear hO; intro hO; refine own_pick (k := (k : Int) + 2) hO hr0 (by omega) (by omega) (by omega) ?_; clear hO; intro x w1 x0 x1 hO; (try simp only [World.size_alloc1, World.size_drew, Nat.reduceAdd] at hO); (try simp only [upd, updI, List.map_cons, List.map_nil, eq_self, if_true, if_false, reduceIte, Nat.add_eq_left, Nat.left_eq_add, Nat.reduceEqDiff, List.set_cons_zero, List.set_cons_succ, hG] at hO); clear hG; have hF := hO; (try simp only [Own, Item.Holds, apartI, CellsAt, Nat.reduceAdd, Nat.zero_add, List.mem_cons, List.not_mem_nil, or_false, forall_eq_or_imp, forall_eq, ne_eq, false_imp_iff, implies_true, and_true] at hF))
      generalize x = ph at x0 x1 ⊢
      have y0 := x0
      have y1 := x1
      clear x0 x1
      go_wp2_with fail
      (go_at_call 51; apply own_at hO; (repeat (first | (with_reducible exact hO) | (with_reducible apply Own.alloc) | (with_reducible apply Own.drew) | ((with_reducible apply Own.set_at); (focus (show _ ≤ _; omega))))); have hG := hF; clear hF; clear hO; intro hO; refine own_pick (k := 9) hO hr0 (by omega) (by omega) (by omega) ?_; clear hO; intro x w1 x0 x1 hO; (try simp only [World.size_alloc1, World.size_drew, Nat.reduceAdd] at hO); (try simp only [upd, updI, List.map_cons, List.map_nil, eq_self, if_true, if_false, reduceIte, Nat.add_eq_left, Nat.left_eq_add, Nat.reduceEqDiff, List.set_cons_zero, List.set_cons_succ, hG] at hO); clear hG; have hF := hO; (try simp only [Own, Item.Holds, apartI, CellsAt, Nat.reduceAdd, Nat.zero_add, List.mem_cons, List.not_mem_nil, or_false, forall_eq_or_imp, forall_eq, ne_eq, false_imp_iff, implies_true, and_true] at hF))
      have q0 : 0 ≤ x / 8 := by omega
      have q1 : x / 8 ≤ 1 := by omega
      have m1 : IntKind.i64.wrap (ph - x / 8) = ph - x / 8 := IntWalk.i64_in _ (by omega)
      have HS := hid (show Own w.heap.size (Below w.heap.size w) _ _ from vs_own (v := l) HB.out.1 HB.out.2 hO.base.1 (by rw [HL.out]; exact hO.1.1))
      have HY := hid (And.intro y0 y1)
      clear hO hF x0 x1 y0 y1
      go_wp2
      (try simp only [Exit.inBlock, Exit.then])
      refine bodyPost_ret (results_tmp4v rfl _ _ _) rfl ?_
      have y1 := HY.out
      refine ⟨f, _, _, l, _, hf, ?_, ?_, rfl, HS.out⟩
      · have := HL.out; omega
      · omega
    · have hlt : k < n := by omega
      have hlt2 : (k : Int) < n := by omega
      have hk0 : (0 : Int) ≤ (k : Int) := by omega
      obtain ⟨q, cap, hv1, hq1, hq2⟩ := hO.row_open (by omega)
      cases hv1
      unfold maxLen at hq2
      obtain ⟨nt, hx⟩ : ∃ x, l[k]? = some x := ⟨_, List.getElem?_eq_getElem (by omega)⟩
      have HE := hid (vcC_at hx)
      have HX := hid hx
      have HL := hid hll
      have hlt9 := hid hlt
      have c0 := hO.row_cell HE.out.1
      clear hx hll he hlt hk
      cases hr : nt.r
      · rw [hr] at c0
        clear hr
        go_wp2_with fail
        (go_at_call 51; apply own_at hO; (repeat (first | (with_reducible exact hO) | (with_reducible apply Own.alloc) | (with_reducible apply Own.drew) | ((with_reducible apply Own.set_at); (focus (show _ ≤ _; omega))))); have hG := hF; clear hF; clear hO; intro hO; refine own_pick (k := 3) hO hr0 (by omega) (by omega) (by omega) ?_; clear hO; intro x w1 x0 x1 hO; (try simp only [World.size_alloc1, World.size_drew, Nat.reduceAdd] at hO); (try simp only [upd, updI, List.map_cons, List.map_nil, eq_self, if_true, if_false, reduceIte, Nat.add_eq_left, Nat.left_eq_add, Nat.reduceEqDiff, List.set_cons_zero, List.set_cons_succ, hG] at hO); clear hG; have hF := hO; (try simp only [Own, Item.Holds, apartI, CellsAt, Nat.reduceAdd, Nat.zero_add, List.mem_cons, List.not_mem_nil, or_false, forall_eq_or_imp, forall_eq, ne_eq, false_imp_iff, implies_true, and_true] at hF))
        cases hxb : (x == 0)
        · clear x0 x1
          go_wp2_with fail
          go_roundw
          case rel => exact ⟨k + 1, l, by have := hlt9.out; omega, HL.out, by go_num, hO.mono hr0 (by omega)⟩
          case measure => have := hlt9.out; simp [intOf]; omega
        · obtain rfl : x = 0 := by simpa using hxb
          clear x0 x1 hxb
          have c5 := hO.row_cell HE.out.2.2.2.2.2
          cases hy : nt.y
          · rw [hy] at c5
            clear hy
            by_cases hk9 : k = 0
            · have hkt : ((k : Int) == 0) = true := by simp [hk9]
              clear hk9
              go_wp2_with fail
              all_goals
                go_wp2_with (go_at_call 52; apply own_at hO; (repeat (first | (with_reducible exact hO) | (with_reducible apply Own.alloc) | (with_reducible apply Own.drew) | ((with_reducible apply Own.set_at); (focus (show _ ≤ _; omega))))); have hG := hF; clear hF; clear hO; intro hO; refine own_call_row hO (fun hB => co17 _ _ (by omega) (by omega) _) ?_; clear hO; intro v w1 hO; (try simp only [World.size_alloc1, World.size_drew, Nat.reduceAdd] at hO); (try simp only [upd, updI, List.map_cons, List.map_nil, eq_self, if_true, if_false, reduceIte, Nat.add_eq_left, Nat.left_eq_add, Nat.reduceEqDiff, List.set_cons_zero, List.set_cons_succ, hG] at hO); clear hG; have hF := hO; (try simp only [Own, Item.Holds, apartI, CellsAt, Nat.reduceAdd, Nat.zero_add, List.mem_cons, List.not_mem_nil, or_false, forall_eq_or_imp, forall_eq, ne_eq, false_imp_iff, implies_true, and_true] at hF))
                obtain ⟨qo, co, huo, ho1, ho2⟩ := hO.row_open (by omega)
                cases huo
                have e0 := hO.row_cell (i := 0) rfl
                have e1 := hO.row_cell (i := 1) rfl
                have e2 := hO.row_cell (i := 2) rfl
                have t1 := hO.2.row_cell HE.out.2.1
                have t2 := hO.2.row_cell HE.out.2.2.1
                have t3 := hO.2.row_cell HE.out.2.2.2.1
                have r1 := hO.2.row_free (k * 6 + 1)
                have r2 := hO.2.row_free (k * 6 + 2)
                have r3 := hO.2.row_free (k * 6 + 3)
                go_wp2_with fail
                go_simp
                go_wp2_with fail
                go_roundw
                case rel =>
                  exact ⟨k + 1, _, by have := hlt9.out; omega, by rw [List.length_set]; exact HL.out, by go_num, (tone_own17 hO.2 HX.out _ _ _).mono hr0 (by omega)⟩
                case measure => have := hlt9.out; simp [intOf]; omega
            · obtain ⟨i, hi⟩ : ∃ i, i = k - 1 := ⟨_, rfl⟩
              have hik : i + 1 = k := by omega
              obtain ⟨pv, hpv⟩ : ∃ x, l[i]? = some x := ⟨_, List.getElem?_eq_getElem (by have := HL.out; have := hlt9.out; omega)⟩
              have HP := hid (vcC_at hpv)
              have p5 := hO.row_cell HP.out.2.2.2.2.2
              have wi : IntKind.i64.wrap ((k : Int) - 1) = (i : Int) := by rw [show (k : Int) - 1 = (i : Int) by omega]; exact IntWalk.i64_in _ (by omega)
              have hi0 : (0 : Int) ≤ (i : Int) := by omega
              have hin : (i : Int) < (n : Int) := by omega
              have hke : ((k : Int) == 0) = false := by simp [hk9]
              have hkn : ¬ (k : Int) = 0 := by omega
              clear hi hik hk9 hpv
              cases hyp : pv.y
              · rw [hyp] at p5
                clear hyp
                go_wp2_with fail
                all_goals
                  go_wp2_with (go_at_call 52; apply own_at hO; (repeat (first | (with_reducible exact hO) | (with_reducible apply Own.alloc) | (with_reducible apply Own.drew) | ((with_reducible apply Own.set_at); (focus (show _ ≤ _; omega))))); have hG := hF; clear hF; clear hO; intro hO; refine own_call_row hO (fun hB => co17 _ _ (by omega) (by omega) _) ?_; clear hO; intro v w1 hO; (try simp only [World.size_alloc1, World.size_drew, Nat.reduceAdd] at hO); (try simp only [upd, updI, List.map_cons, List.map_nil, eq_self, if_true, if_false, reduceIte, Nat.add_eq_left, Nat.left_eq_add, Nat.reduceEqDiff, List.set_cons_zero, List.set_cons_succ, hG] at hO); clear hG; have hF := hO; (try simp only [Own, Item.Holds, apartI, CellsAt, Nat.reduceAdd, Nat.zero_add, List.mem_cons, List.not_mem_nil, or_false, forall_eq_or_imp, forall_eq, ne_eq, false_imp_iff, implies_true, and_true] at hF))
                  obtain ⟨qo, co, huo, ho1, ho2⟩ := hO.row_open (by omega)
                  cases huo
                  have e0 := hO.row_cell (i := 0) rfl
                  have e1 := hO.row_cell (i := 1) rfl
                  have e2 := hO.row_cell (i := 2) rfl
                  have t1 := hO.2.row_cell HE.out.2.1
                  have t2 := hO.2.row_cell HE.out.2.2.1
                  have t3 := hO.2.row_cell HE.out.2.2.2.1
                  have r1 := hO.2.row_free (k * 6 + 1)
                  have r2 := hO.2.row_free (k * 6 + 2)
                  have r3 := hO.2.row_free (k * 6 + 3)
                  go_wp2_with fail
                  go_simp
                  go_wp2_with fail
                  go_roundw
                  case rel =>
                    exact ⟨k + 1, _, by have := hlt9.out; omega, by rw [List.length_set]; exact HL.out, by go_num, (tone_own17 hO.2 HX.out _ _ _).mono hr0 (by omega)⟩
                  case measure => have := hlt9.out; simp [intOf]; omega
              · rw [hyp] at p5
                clear hyp
                go_wp2_with fail
                go_roundw
                case rel => exact ⟨k + 1, l, by have := hlt9.out; omega, HL.out, by go_num, hO.mono hr0 (by omega)⟩
                case measure => have := hlt9.out; simp [intOf]; omega
          · rw [hy] at c5
            clear hy
            go_wp2_with fail
            go_roundw
            case rel => exact ⟨k + 1, l, by have := hlt9.out; omega, HL.out, by go_num, hO.mono hr0 (by omega)⟩
            case measure => have := hlt9.out; simp [intOf]; omega
      · rw [hr] at c0
        clear hr
        go_wp2_with fail
        go_roundw
        case rel => exact ⟨k + 1, l, by have := hlt9.out; omega, HL.out, by go_num, hO.mono hr0 (by omega)⟩
        case measure => have := hlt9.out; simp [intOf]; omega

/-- What drawing a key and two voices leaves. -/
def DrewAh (w : World) (e : Ending) (w' : World) : Prop :=
  ∃ (f : Int) (m : Bool) (u : Value) (v : List Nt) (s : Value) (z : List Nt), (-8 ≤ f ∧ f ≤ 8) ∧ v.length ≤ 61 ∧ z.length ≤ 61 ∧ e = .returned (.tuple #[.int .i64 f, .bool m, u, s]) ∧ SlAt w' u v.length 6 (vcC v) ∧ SlAt w' s z.length 6 (vcC z) ∧ Below w.heap.size w w'

set_option maxRecDepth 20000 in
set_option maxHeartbeats 4000000 in
theorem DrawAnswerHead_any (v : Value) (n0 : Nat) (w : World) (hn : n0 ≤ maxLen) (h : BytesB w w.heap.size v n0) :
    Calls Tryd.prog 27 #[v] w (DrewAh w) := by
  obtain ⟨a0, c0, rfl⟩ : ∃ a c, v = .slice a n0 c := by
    rcases h with ⟨rfl, a, c, rfl⟩ | ⟨_, b, off, cap, _, _, rfl, _⟩
    · exact ⟨a, c, rfl⟩
    · exact ⟨_, _, rfl⟩
  go_enter Tryd.func27, Tryd.ntmps27
  go_wp2_with fail
  refine (DrawTonalAnswer_any _ n0 _ hn h).mono ?_
  rintro e w1 ⟨f, m, u, vs, hd, hf, hl, hh, rfl, hO⟩
  have hF := True.intro
  obtain ⟨n, hnl⟩ : ∃ n, vs.length = n := ⟨_, rfl⟩
  rw [hnl] at hO hl
  obtain ⟨x, hx⟩ : ∃ x, taL f m vs hd = x := ⟨_, rfl⟩
  obtain ⟨k, hk⟩ : ∃ k, x.length = k := ⟨_, rfl⟩
  obtain ⟨b, hb⟩ : ∃ b, taB f m vs hd = b := ⟨_, rfl⟩
  have hkn : k ≤ n := by rw [← hk, ← hx, ← hnl]; exact taL_len f m vs hd
  have HT := hid (fun va W (hs : SlAt W va n 6 (vcC vs)) => show Calls Tryd.prog 23 #[.int .i64 f, .bool m, va, .int .i64 hd] W (RowOutB 39 6 k (vcC x) b W) from by
    have := taS_any f m va vs hd W (by rw [hnl]; exact hs) (by omega)
    rw [hx, hk, hb] at this
    exact this)
  have HN := hid (And.intro hnl hk)
  obtain ⟨A, c, hu⟩ := (SlAt.of_row hO.1.1).form
  subst hu
  have hn' : (n0 : Int) ≤ 9223372036854775807 := by unfold maxLen at hn; omega
  have hmod : ((n0 : Int).tmod 4) = (n0 : Int) % 4 := Int.tmod_eq_emod_of_nonneg (by omega)
  clear hx hk hb hnl h hn hh
  have hways : (b = false) ∨ (b = true ∧ ((n0 : Int) % 4 = 0) ∧ ((n0 : Int) % 4 == 0) = true) ∨ (b = true ∧ ¬ ((n0 : Int) % 4 = 0) ∧ ((n0 : Int) % 4 == 0) = false) := by
    cases b with
    | false => exact .inl rfl
    | true =>
      by_cases q : (n0 : Int) % 4 = 0
      · exact .inr (.inl ⟨rfl, q, by simpa using q⟩)
      · exact .inr (.inr ⟨rfl, q, by simpa using q⟩)
  rcases hways with rfl | ⟨rfl, q1, q2⟩ | ⟨rfl, q1, q2⟩
  · go_wp2_with (go_at_call 23; apply own_at hO; (repeat (first | (with_reducible exact hO) | (with_reducible apply Own.alloc) | (with_reducible apply Own.drew) | ((with_reducible apply Own.set_at); (focus (show _ ≤ _; omega))))); have hG := hF; clear hF; clear hO; intro hO; refine own_call_rowB hO (fun hB => HT.out _ _ (SlAt.of_row hO.1.1)) ?_; clear hO; intro v w1 hO; (try simp only [World.size_alloc1, World.size_drew, Nat.reduceAdd] at hO); (try simp only [upd, updI, List.map_cons, List.map_nil, eq_self, if_true, if_false, reduceIte, Nat.add_eq_left, Nat.left_eq_add, Nat.reduceEqDiff, List.set_cons_zero, List.set_cons_succ, hG] at hO); clear hG; have hF := hO; (try simp only [Own, Item.Holds, apartI, CellsAt, Nat.reduceAdd, Nat.zero_add, List.mem_cons, List.not_mem_nil, or_false, forall_eq_or_imp, forall_eq, ne_eq, false_imp_iff, implies_true, and_true] at hF))
    have HS := hid (And.intro (SlAt.of_row hO.2.1.1) hO.base)
    clear hO hF
    (try simp only [Exit.inBlock, Exit.then])
    refine bodyPost_ret (results_tmp4v rfl _ _ _) rfl ?_
    refine ⟨f, _, _, vs, _, vs, hf, by have := HN.out.1; omega, by have := HN.out.1; omega, rfl, by rw [HN.out.1]; exact HS.out.1, by rw [HN.out.1]; exact HS.out.1, HS.out.2⟩
  · have HQ := hid q1
    clear q1
    go_wp2_with (go_at_call 23; apply own_at hO; (repeat (first | (with_reducible exact hO) | (with_reducible apply Own.alloc) | (with_reducible apply Own.drew) | ((with_reducible apply Own.set_at); (focus (show _ ≤ _; omega))))); have hG := hF; clear hF; clear hO; intro hO; refine own_call_rowB hO (fun hB => HT.out _ _ (SlAt.of_row hO.1.1)) ?_; clear hO; intro v w1 hO; (try simp only [World.size_alloc1, World.size_drew, Nat.reduceAdd] at hO); (try simp only [upd, updI, List.map_cons, List.map_nil, eq_self, if_true, if_false, reduceIte, Nat.add_eq_left, Nat.left_eq_add, Nat.reduceEqDiff, List.set_cons_zero, List.set_cons_succ, hG] at hO); clear hG; have hF := hO; (try simp only [Own, Item.Holds, apartI, CellsAt, Nat.reduceAdd, Nat.zero_add, List.mem_cons, List.not_mem_nil, or_false, forall_eq_or_imp, forall_eq, ne_eq, false_imp_iff, implies_true, and_true] at hF))
    have HS := hid (And.intro (SlAt.of_row hO.2.1.1) hO.base)
    clear hO hF
    (try simp only [Exit.inBlock, Exit.then])
    refine bodyPost_ret (results_tmp4v rfl _ _ _) rfl ?_
    refine ⟨f, _, _, vs, _, vs, hf, by have := HN.out.1; omega, by have := HN.out.1; omega, rfl, by rw [HN.out.1]; exact HS.out.1, by rw [HN.out.1]; exact HS.out.1, HS.out.2⟩
  · go_wp2_with (go_at_call 23; apply own_at hO; (repeat (first | (with_reducible exact hO) | (with_reducible apply Own.alloc) | (with_reducible apply Own.drew) | ((with_reducible apply Own.set_at); (focus (show _ ≤ _; omega))))); have hG := hF; clear hF; clear hO; intro hO; refine own_call_rowB hO (fun hB => HT.out _ _ (SlAt.of_row hO.1.1)) ?_; clear hO; intro v w1 hO; (try simp only [World.size_alloc1, World.size_drew, Nat.reduceAdd] at hO); (try simp only [upd, updI, List.map_cons, List.map_nil, eq_self, if_true, if_false, reduceIte, Nat.add_eq_left, Nat.left_eq_add, Nat.reduceEqDiff, List.set_cons_zero, List.set_cons_succ, hG] at hO); clear hG; have hF := hO; (try simp only [Own, Item.Holds, apartI, CellsAt, Nat.reduceAdd, Nat.zero_add, List.mem_cons, List.not_mem_nil, or_false, forall_eq_or_imp, forall_eq, ne_eq, false_imp_iff, implies_true, and_true] at hF))
    have HS := hid (And.intro (SlAt.of_row hO.2.1.1) (And.intro (SlAt.of_row hO.1.1) hO.base))
    clear hO hF
    (try simp only [Exit.inBlock, Exit.then])
    refine bodyPost_ret (results_tmp4v rfl _ _ _) rfl ?_
    refine ⟨f, _, _, vs, _, x, hf, by have := HN.out.1; omega, by have := HN.out.2; omega, rfl, by rw [HN.out.1]; exact HS.out.1, by rw [HN.out.2]; exact HS.out.2.1, HS.out.2.2⟩
end Go.Proofs.YtcgcnkddgihkpaaDoor
