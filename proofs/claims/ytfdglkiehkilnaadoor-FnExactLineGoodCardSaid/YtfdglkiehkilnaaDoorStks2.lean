/- The laws' own functions over chords: how many pitches there are, equal ones are found equal, marks are laid. -/
import Derived.Test.YtfdglkiehkilnaaDoorStks
import Derived.Test.YtfdglkiehkilnaaDoorRegionD
namespace Go.Proofs.YtfdglkiehkilnaaDoor
set_option linter.unusedSimpArgs false
set_option linter.unusedVariables false
set_option maxRecDepth 8000
open Go.RowKit

/-- What is left behind chords. -/
def szK : Int → List (List Pt) → Int
  | n, [] => n
  | n, l :: ll => if n < (l.length : Int) then -1 else szK (n - l.length) ll
def szKZ (n : Int) (ll : List (List Pt)) : Int := if n < (ll.length : Int) then -1 else szK (n - ll.length) ll
/-- How many pitches there are. -/
def ptN : List (List Pt) → Nat
  | [] => 0
  | l :: ll => l.length + ptN ll
theorem szK_ok : ∀ {ll : List (List Pt)} {n : Int}, 0 ≤ n → szK n ll = -1 ∨ 0 ≤ szK n ll ∧ szK n ll ≤ n ∧ (ptN ll : Int) ≤ n ∧ ∀ l ∈ ll, (l.length : Int) ≤ n
  | [], n, h => Or.inr ⟨h, Int.le_refl _, h, fun l hl => by cases hl⟩
  | l :: ll, n, h => by
    simp only [szK, ptN]
    split
    · exact Or.inl rfl
    · rcases szK_ok (ll := ll) (n := n - l.length) (by omega) with h1 | ⟨h1, h2, h3, h4⟩
      · exact Or.inl h1
      · refine Or.inr ⟨h1, by omega, by push_cast; omega, fun x hx => ?_⟩
        rcases List.mem_cons.1 hx with rfl | hx
        · omega
        · have := h4 x hx; omega
theorem szKZ_ok {ll : List (List Pt)} {n : Int} (h : 0 ≤ n) : szKZ n ll = -1 ∨ 0 ≤ szKZ n ll ∧ szKZ n ll ≤ n ∧ (ll.length : Int) ≤ n ∧ (ptN ll : Int) ≤ n ∧ ∀ l ∈ ll, (l.length : Int) ≤ n := by
  unfold szKZ
  split
  · exact Or.inl rfl
  · rcases szK_ok (ll := ll) (n := n - ll.length) (by omega) with h1 | ⟨h1, h2, h3, h4⟩
    · exact Or.inl h1
    · exact Or.inr ⟨h1, by omega, by omega, by omega, fun l hl => by have := h4 l hl; omega⟩

theorem szP_at {va : Value} {l : List Pt} {n z : Int} (h0 : 0 ≤ n) (h1 : n ≤ 1000000000) (hz : (if n < l.length then -1 else n - (l.length : Int)) = z) (hl : (l.length : Int) ≤ 9223372036854775807) (W : World) (h : PtsAt W va l) :
    Calls Tryd.prog 24 #[va, .int .i64 n] W fun e w' => e = .returned (.int .i64 z) ∧ W = w' := by
  subst hz; exact szP_any va l n W h h0 h1 hl
theorem PtsAt.len {w : World} {v : Value} {l : List Pt} (h : PtsAt w v l) : (l.length : Int) ≤ 9223372036854775807 := by
  rcases h with ⟨rfl, _⟩ | h
  · simp
  · obtain ⟨_, _, _, nb, _⟩ := h.open
    exact nb

set_option maxHeartbeats 4000000 in
theorem szPSS_any (va : Value) (ll : List (List Pt)) (n z : Int) (w : World) (h : StkIn w va ll) (h0 : 0 ≤ n) (h1 : n ≤ 1000000000) (hz : szKZ n ll = z) :
    Calls Tryd.prog 36 #[va, .int .i64 n] w fun e w' => e = .returned (.int .i64 z) ∧ w = w' := by
  obtain ⟨A, c, rfl, nb, hA⟩ := h.open
  obtain ⟨m, hm⟩ : ∃ m, ll.length = m := ⟨_, rfl⟩
  have HM := hid hm
  rw [hm] at nb hA
  rw [hm]
  have w9 : IntKind.i64.wrap (n - m) = n - m := IntWalk.i64_in _ (by omega)
  by_cases hn : n < (m : Int)
  · have HE := hid (show z = -1 by rw [← hz]; unfold szKZ; rw [hm, if_pos hn])
    have hn2 : n - (m : Int) < 0 := by omega
    clear hz h hA hm hn
    go_enter Tryd.func36, Tryd.ntmps36
    go_wp2
    go_ret
    exact ⟨ret_int HE.out.symm, rfl⟩
  · have HE := hid (show z = szK (n - m) (ll.drop 0) by rw [← hz]; unfold szKZ; rw [hm, if_neg hn]; rfl)
    have hn2 : ¬ (n - (m : Int) < 0) := by omega
    have hn3 : 0 ≤ n - (m : Int) := by omega
    have hn4 : n - (m : Int) ≤ 1000000000 := by omega
    clear hz h hm hn
    go_enter Tryd.func36, Tryd.ntmps36
    go_wp2_with fail
    go_loop [1, 5] (fun s t => ∃ (k : Nat) (r : Int), k ≤ m ∧ t = .int .i64 k ∧ s = .int .i64 r ∧ (0 ≤ r ∧ r ≤ 1000000000) ∧ Hid (z = szK r (ll.drop k))) (fun _ t => m - (intOf t).toNat)
    case atStart => exact ⟨0, n - m, by omega, rfl, rfl, ⟨hn3, hn4⟩, HE⟩
    case round =>
      obtain ⟨k, r, hk, rfl, rfl, hr, HZ⟩ := hrel
      clear HE hn2 hn3 hn4 w9
      by_cases hend : k = m
      · subst hend
        have e1 := hid (show r = z by rw [HZ.out, show ll.drop k = [] by rw [List.drop_eq_nil_iff]; have := HM.out; omega]; rfl)
        go_wp2
        go_ret
        exact ⟨ret_int e1.out, rfl⟩
      · have hlt : k < m := by omega
        have hlt2 : (k : Int) < m := by omega
        obtain ⟨b', off, rfl, hc1, hc2, hb, hcell⟩ := hA (by omega)
        obtain ⟨l, hl⟩ : ∃ s, ll[k]? = some s := ⟨_, List.getElem?_eq_getElem (by have := HM.out; omega)⟩
        obtain ⟨A1, c1, hev, d0⟩ := hcell k l hl
        have HD := hid (show ll.drop k = l :: ll.drop (k + 1) by
          have hkl := (List.getElem?_eq_some_iff.1 hl).1
          rw [List.drop_eq_getElem_cons hkl]; congr 1
          rw [List.getElem?_eq_getElem hkl] at hl; exact Option.some.inj hl)
        have hll := hev.len
        obtain ⟨q, hq⟩ : ∃ q, l.length = q := ⟨_, rfl⟩
        by_cases hneg : r < (l.length : Int)
        · have HS := hid (szP_at hr.1 hr.2 (show (if r < l.length then -1 else r - (l.length : Int)) = -1 from if_pos hneg) hll w hev)
          have HE3 := hid (show z = -1 by rw [HZ.out, HD.out]; simp only [szK]; rw [if_pos hneg])
          rw [hq] at HS d0
          clear hend hl hcell hev hll hneg hq
          go_wp2_with (go_at_call 24; refine (HS.out).mono ?_; rintro e w1 ⟨rfl, rfl⟩)
          go_ret
          exact ⟨ret_int HE3.out.symm, rfl⟩
        · have HS := hid (szP_at hr.1 hr.2 (show (if r < l.length then -1 else r - (l.length : Int)) = r - l.length from if_neg hneg) hll w hev)
          have HE3 := hid (show z = szK (r - l.length) (ll.drop (k + 1)) by rw [HZ.out, HD.out]; simp only [szK]; rw [if_neg hneg])
          rw [hq] at HS d0 HE3 hneg
          obtain ⟨y, hy⟩ : ∃ y, r - (q : Int) = y := ⟨_, rfl⟩
          rw [hy] at HS HE3
          have y0 : 0 ≤ y := by omega
          have y1 : y ≤ 1000000000 := by omega
          have y2 : ¬ y < 0 := by omega
          clear hend hl hcell hev hll hneg hq hy
          go_wp2_with (go_at_call 24; refine (HS.out).mono ?_; rintro e w1 ⟨rfl, rfl⟩)
          go_round
          case rel => exact ⟨k + 1, y, by omega, by go_num, rfl, ⟨y0, y1⟩, HE3⟩
          case measure => simp [intOf]; omega

set_option maxHeartbeats 4000000 in
/-- The same chords, in two places. -/
theorem eqPSS_same (va vb : Value) (ll : List (List Pt)) (n : Nat) (w : World) (hn : ll.length = n) (ha : StkR w va ll) (hb : StkR w vb ll) (h9 : n ≤ 1048576) :
    Calls Tryd.prog 38 #[va, vb] w fun e w' => e = .returned (.bool true) ∧ Below w.heap.size w w' := by
  have hO := Own.start w
  have hF := True.intro
  have HA := hid ha
  have HB := hid hb
  obtain ⟨A, c, rfl, na, hA⟩ := ha.open
  obtain ⟨A', c', rfl, nb, hB'⟩ := hb.open
  rw [hn] at na nb hA hB'
  rw [hn]
  have HN := hid hn
  clear ha hb hn
  go_enter Tryd.func38, Tryd.ntmps38
  go_wp2_with fail
  go_loopw [5] (fun t wr => ∃ j : Nat, j ≤ n ∧ t = .int .i64 j ∧ Own w.heap.size (Below w.heap.size w) wr []) (fun t _ => n - (intOf t).toNat)
  case atStart => exact ⟨0, by omega, rfl, hO⟩
  case round =>
    clear hO hF
    obtain ⟨j, hj, rfl, hO⟩ := hrel
    have hF := hO; (try simp only [Own, Item.Holds, apartI, CellsAt, Nat.reduceAdd, Nat.zero_add, List.mem_cons, List.not_mem_nil, or_false, forall_eq_or_imp, forall_eq, ne_eq, false_imp_iff, implies_true, and_true] at hF)
    by_cases he : j = n
    · subst he
      go_wp2_with fail
      go_ret
      exact ⟨rfl, hO.base⟩
    · have hlt : j < n := by omega
      have hlt2 : (j : Int) < n := by omega
      obtain ⟨b1, o1, rfl, k1, m1, l1, hc1⟩ := hA (by omega)
      obtain ⟨b2, o2, rfl, k2, m2, l2, hc2⟩ := hB' (by omega)
      obtain ⟨l, hl⟩ : ∃ x, ll[j]? = some x := ⟨_, List.getElem?_eq_getElem (by have := HN.out; omega)⟩
      obtain ⟨A1, q1, s1, d1⟩ := hc1 j l hl
      obtain ⟨A2, q2, s2, d2⟩ := hc2 j l hl
      have HE := hid (fun W (hW : Below w.heap.size w W) => eqPS_same _ _ l.length (pcC l) W (s1.below hW) (s2.below hW) (pcC_int l))
      have HD := hid (And.intro d1 d2)
      have HL := hid (And.intro l1 l2)
      obtain ⟨q, hq⟩ : ∃ q, l.length = q := ⟨_, rfl⟩
      rw [hq] at HE HD
      clear he hl hc1 hc2 s1 s2 d1 d2 hq
      go_wp2_with fail
      apply own_code hO
      (repeat (first | (with_reducible exact hO) | (with_reducible apply Own.alloc) | (with_reducible apply Own.drew) | ((with_reducible apply Own.set_at); (focus (show _ ≤ _; omega)))))
      have hG := hF; clear hF; clear hO; intro hO
      (try simp only [World.size_alloc1, World.size_drew, Nat.reduceAdd] at hO); (try simp only [upd, updI, List.map_cons, List.map_nil, eq_self, if_true, if_false, reduceIte, Nat.add_eq_left, Nat.left_eq_add, Nat.reduceEqDiff, List.set_cons_zero, List.set_cons_succ, hG] at hO); clear hG
      refine region_own (X := fun _ => True) [] (by kernel_rfl) (hO) (trivial) (by first | exact XStab.true | exact XStab.rd | exact XStab.rdIf) ?_
      clear hO
      refine Sim.sP (i := 0) (d := some 17) (h := ?_)
      refine Sim.sP (i := 1) (d := some 18) (h := ?_)
      refine Sim.sP (i := 2) (d := some 19) (h := ?_)
      refine Sim.sO (i := 3) (d := some 20) (v := ?_) (hy := ?_) (h := ?_)
      rotate_left
      · first | refine Or.inl ⟨by rfl, fun w hO => ?_⟩ | (refine Or.inr ⟨by rfl, ?_⟩; with_reducible rfl)
        first | done | (have hF := hO; (try simp only [Own, Item.Holds, apartI, CellsAt, Nat.reduceAdd, Nat.zero_add, List.mem_cons, List.not_mem_nil, or_false, forall_eq_or_imp, forall_eq, ne_eq, false_imp_iff, implies_true, and_true] at hF); ((have e0 := ((bcell hO.base).1 b1 (o1 + j) l1).trans HD.out.1; have e1 := ((bcell hO.base).1 b2 (o2 + j) l2).trans HD.out.2)); refine Out.same ?_; go_simp; all_goals with_reducible rfl)
      refine Sim.sP (i := 4) (d := some 21) (h := ?_)
      refine Sim.sP (i := 5) (d := some 22) (h := ?_)
      refine Sim.sP (i := 6) (d := some 23) (h := ?_)
      refine Sim.sO (i := 7) (d := some 24) (v := ?_) (hy := ?_) (h := ?_)
      rotate_left
      · first | refine Or.inl ⟨by rfl, fun w hO => ?_⟩ | (refine Or.inr ⟨by rfl, ?_⟩; with_reducible rfl)
        first | done | (have hF := hO; (try simp only [Own, Item.Holds, apartI, CellsAt, Nat.reduceAdd, Nat.zero_add, List.mem_cons, List.not_mem_nil, or_false, forall_eq_or_imp, forall_eq, ne_eq, false_imp_iff, implies_true, and_true] at hF); ((have e0 := ((bcell hO.base).1 b1 (o1 + j) l1).trans HD.out.1; have e1 := ((bcell hO.base).1 b2 (o2 + j) l2).trans HD.out.2)); refine Out.same ?_; go_simp; all_goals with_reducible rfl)
      refine Sim.sO (i := 8) (d := some 25) (v := ?_) (hy := ?_) (h := ?_)
      rotate_left
      · first | refine Or.inl ⟨by rfl, fun w hO => ?_⟩ | (refine Or.inr ⟨by rfl, ?_⟩; with_reducible rfl)
        first | done | (refine Out.call (f := 26) (args := ?_) ?_ ?_; rotate_left; (focus (go_simp; all_goals with_reducible rfl)); exact HE.out _ hO.base)
      refine Sim.sP (i := 9) (d := some 26) (h := ?_)
      refine Sim.done (by kernel_rfl) (fun w1 hO hX => ?_) _
      (try simp only [World.size_alloc1, World.size_drew, Nat.reduceAdd] at hO); (try simp only [upd, updI, List.map_cons, List.map_nil, eq_self, if_true, if_false, reduceIte, Nat.add_eq_left, Nat.left_eq_add, Nat.reduceEqDiff, List.set_cons_zero, List.set_cons_succ] at hO)
      have hF := hO; (try simp only [Own, Item.Holds, apartI, CellsAt, Nat.reduceAdd, Nat.zero_add, List.mem_cons, List.not_mem_nil, or_false, forall_eq_or_imp, forall_eq, ne_eq, false_imp_iff, implies_true, and_true] at hF)
      go_wp2
      go_roundw
      case rel => exact ⟨j + 1, by omega, by go_num, hO⟩
      case measure => simp [intOf]; omega

/-- Rows of chords, by their cells. -/
def rwQ (cs : List (Value × Nat × List Value)) : List Item := cs.map fun p => .row 29 3 p.1 p.2.1 p.2.2
/-- How many cells they have. -/
def totQ (cs : List (Value × Nat × List Value)) : Nat := (cs.map fun p => p.2.2.length).sum
theorem totQ_append (a b : List (Value × Nat × List Value)) : totQ (a ++ b) = totQ a + totQ b := by simp [totQ]
def esQ (es : List (Value × List Pt)) : List (Value × Nat × List Value) := es.map fun p => (p.1, p.2.length, pcC p.2)
theorem rwP_Q (es : List (Value × List Pt)) : rwP es = rwQ (esQ es) := by
  unfold rwP rwQ esQ
  rw [List.map_map]
  rfl
theorem totQ_es : ∀ es : List (Value × List Pt), totQ (esQ es) = 3 * ptN (lsO es)
  | [] => rfl
  | p :: es => by
    have ih := totQ_es es
    simp only [totQ, esQ, List.map_cons, List.sum_cons, lsO, ptN] at ih ⊢
    rw [ih, pcC_len]
    omega
theorem split_atQ {α : Type} {l : List α} {i : Nat} {p : α} (h : l[i]? = some p) : ∃ U V, l = U ++ p :: V ∧ U.length = i := by
  have hl := (List.getElem?_eq_some_iff.1 h).1
  refine ⟨l.take i, l.drop (i + 1), ?_, by rw [List.length_take]; omega⟩
  have : l.drop i = p :: l.drop (i + 1) := by
    rw [List.drop_eq_getElem_cons hl]; congr 1
    rw [List.getElem?_eq_getElem hl] at h; exact Option.some.inj h
  rw [← this, List.take_append_drop]
theorem rwQ_mid (U V : List (Value × Nat × List Value)) (p : Value × Nat × List Value) (it : Item) (L : List Item) : (it :: (rwQ (U ++ p :: V) ++ L)).Perm (.row 29 3 p.1 p.2.1 p.2.2 :: it :: (rwQ (U ++ V) ++ L)) := by
  have h1 : rwQ (U ++ p :: V) ++ L = rwQ U ++ (.row 29 3 p.1 p.2.1 p.2.2 :: (rwQ V ++ L)) := by simp [rwQ]
  have h2 : rwQ (U ++ V) ++ L = rwQ U ++ (rwQ V ++ L) := by simp [rwQ]
  rw [h1, h2]
  exact (List.Perm.cons it List.perm_middle).trans (List.Perm.swap _ _ _)
theorem Own.skipP {n : Nat} {B : World → Prop} {w : World} : ∀ {U V : List Item}, Own n B w (U ++ V) → Own n B w V
  | [], _, h => h
  | _ :: _, _, h => h.2.skipP

set_option maxHeartbeats 8000000 in
theorem markPSS_own {n : Nat} {B : World → Prop} {L : List Item} (va : Value) (es : List (Value × List Pt)) (N : Nat) (k0 : Int) (w : World) (hN : es.length = N) (hO : Own n B w (.row 23 1 va N (vsO es) :: (rwP es ++ L))) (hn : N ≤ 1048576) (hen : ptN (lsO es) ≤ 1048576) (h0 : 0 ≤ k0) (h1 : k0 ≤ 10) :
    Calls Tryd.prog 39 #[va, .int .i64 k0] w fun e w' => ∃ r, e = .returned (.int .i64 r) ∧ (0 ≤ r ∧ r ≤ 4000000) ∧ Own n B w' L := by
  have ht := totQ_es es
  rw [rwP_Q] at hO
  obtain ⟨A, c, rfl⟩ := (SlAt.of_row hO.1.1).form
  have hv : (esQ es).map (·.1) = vsO es := by unfold esQ vsO; rw [List.map_map]; rfl
  have hel : (esQ es).length = N := by unfold esQ; rw [List.length_map]; exact hN
  obtain ⟨X, hX⟩ : ∃ X, vsO es = X := ⟨_, rfl⟩
  obtain ⟨cs0, hcs0⟩ : ∃ cs, esQ es = cs := ⟨_, rfl⟩
  rw [hX] at hO hv
  rw [hcs0] at hO hv hel ht
  obtain ⟨T, hT⟩ : ∃ T, 3 * ptN (lsO es) = T := ⟨_, rfl⟩
  have hT3 : T ≤ 3145728 := by omega
  rw [hT] at ht
  have HV := hid hv
  clear hX hcs0 hT hen hN hv
  go_enter Tryd.func39, Tryd.ntmps39
  go_wp2_with fail
  go_loopw [1, 5] (fun s t wr => ∃ (i : Nat) (r : Int) (cs : List (Value × Nat × List Value)), i ≤ N ∧ t = .int .i64 i ∧ s = .int .i64 r ∧ (0 ≤ r ∧ r ≤ k0 + totQ (cs.take i)) ∧ Hid (cs.length = N ∧ totQ cs = T ∧ cs.map (·.1) = X) ∧ Own n B wr (.row 23 1 (.slice A N c) N X :: (rwQ cs ++ L))) (fun _ t _ => N - (intOf t).toNat)
  case atStart => exact ⟨0, k0, cs0, by omega, rfl, rfl, by simp [totQ]; omega, ⟨hel, ht, HV.out⟩, hO⟩
  case round =>
    clear hO HV hel ht cs0
    obtain ⟨i, r, cs, hi, rfl, rfl, hr, HC, hO⟩ := hrel
    have htl : totQ (cs.take i) ≤ T := by
      have := totQ_append (cs.take i) (cs.drop i)
      rw [List.take_append_drop, HC.out.2.1] at this
      omega
    by_cases hend : i = N
    · subst hend
      have hrb : r ≤ 4000000 := by omega
      have hr0 := hr.1
      clear htl hr
      go_wp2_with fail
      go_ret
      exact ⟨r, rfl, ⟨hr0, hrb⟩, hO.2.skipP⟩
    · have hlt : i < N := by omega
      have hlt2 : (i : Int) < N := by omega
      obtain ⟨q, cp, hq, q1, q2⟩ := hO.row_open (by omega)
      cases hq
      unfold maxLen at q2
      obtain ⟨p, hp⟩ : ∃ p, cs[i]? = some p := ⟨_, List.getElem?_eq_getElem (by have := HC.out.1; omega)⟩
      have hx : X[i]? = some p.1 := by rw [← HC.out.2.2, List.getElem?_map, hp]; rfl
      have c0 := hO.row_cell hx
      obtain ⟨U, V, rfl, hU⟩ := split_atQ hp
      obtain ⟨hc1, hc2, hc3⟩ := HC.out
      have hO2 := hO.perm (rwQ_mid U V p _ L)
      have hpl : p.2.2.length = p.2.1 * 3 := (SlAt.of_row hO2.1.1).1
      have htu : totQ ((U ++ p :: V).take i) = totQ U := by rw [List.take_append, hU, Nat.sub_self]; simp [List.take_of_length_le (Nat.le_of_eq hU)]
      have htv : totQ (U ++ p :: V) = totQ U + (p.2.2.length + totQ V) := by rw [totQ_append]; simp [totQ]
      rw [htu] at hr
      have pb : r ≤ 10000000 := by omega
      have plen : p.2.1 ≤ 1000000000 := by omega
      have HT := hid (And.intro hc2 (And.intro htv hU))
      have HC3 := hid (And.intro hc1 hc3)
      have HJ := hid (And.intro hi hlt)
      have r0 := hr.1
      have HR := hid hr
      obtain ⟨ev, kk, ys⟩ := p
      simp only at c0 hO2 plen HT hpl
      clear hend hp hx hc1 hc2 hc3 hO htu htv hi htl HC hlt hr hpl
      go_wp2_with (go_at_call 28; refine own_mark hO2 (fun hr => markPS_any _ _ _ _ _ _ _ hr r0 pb plen) ?_; clear hO2 c0; intro w1 hO)
      go_roundw
      case rel =>
        have hml : (mkTo r ys.length ys).length = ys.length := mkTo_length _ _ _
        obtain ⟨hc1, hc3⟩ := HC3.out
        obtain ⟨ht1, ht2, hU⟩ := HT.out
        refine ⟨i + 1, r + ys.length, U ++ (ev, kk, mkTo r ys.length ys) :: V, by have := HJ.out; omega, by go_num, rfl, ?_, ⟨by simpa using hc1, ?_, by simpa using hc3⟩, ?_⟩
        · have e : totQ ((U ++ (ev, kk, mkTo r ys.length ys) :: V).take (i + 1)) = totQ U + ys.length := by
            rw [List.take_append, hU, show i + 1 - i = 1 by omega, List.take_of_length_le (by omega), totQ_append]
            simp [totQ, hml]
          rw [e]
          have := HR.out
          push_cast
          omega
        · rw [totQ_append] at ht1 ⊢
          simp only [totQ, List.map_cons, List.sum_cons] at ht1 ⊢
          rw [hml]
          exact ht1
        · exact hO.perm (rwQ_mid U V (ev, kk, mkTo r ys.length ys) _ L).symm
      case measure => have := HJ.out; simp [intOf]; omega
end Go.Proofs.YtfdglkiehkilnaaDoor
