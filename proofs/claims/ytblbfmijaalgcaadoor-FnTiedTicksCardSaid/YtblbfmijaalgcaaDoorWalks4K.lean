/- Chapter 4 in the program: the table of sums; tied values. -/
import Derived.Test.YtblbfmijaalgcaaDoorWalks4J
import Derived.Test.YtblbfmijaalgcaaDoorWalks4T
import Derived.Test.YtblbfmijaalgcaaDoorPure4d
namespace Go.Proofs.YtblbfmijaalgcaaDoor
set_option linter.unusedSimpArgs false
set_option linter.unusedVariables false
open Go.RowKit Go.Joins

/-- 'make([]T, 0, n)': an empty row with room for n stands at the head of what is owned. -/
theorem wpList_make_cap {P : Program} {ops : Array Oper} {rest : List Oper} {o : Oper} {a : Act} {Q : Exit → Act → World → Prop} {n : Nat} {B : World → Prop} {w : World} {L : List Item}
    (hg : o.guard = none) (l c : Operand) (t : TypeId) (hop : o.op = Op.makeSlice t l c) (e : TypeId) (i : TypeInfo) (z : Value) (size bytes : Nat) (h1 : P.underlying t = some (.slice e)) (h2 : P.info? e = some i) (h3 : i.zero = some z) (h4 : i.size = size) (h5 : i.bytes = bytes)
    (kl kc : IntKind) (y : Int) (k : Nat) (hl : a.eval l = .int kl 0) (hc : a.eval c = .int kc y) (hy : y = (k : Int)) (b2 : bytes * k ≤ 281474976710656) (b3 : k ≤ maxLen) (hO : Own n B w L)
    (hK : ∀ q w', Own n B w' (.row e size (.slice (some ⟨q, 0, none⟩) 0 k) 0 [] :: L) → wpList P ops Q rest (a.put o.dst (.slice (some ⟨q, 0, none⟩) 0 k)) w') : wpList P ops Q (o :: rest) a w := by
  subst h5
  refine wpList_make_own w hg l c t hop w.heap.size e i z size h1 h2 h3 h4 kl kc y k hl hc hy b2 b3 (Nat.le_refl _) fun w' hr hgr => hK _ w' ?_
  exact hO.addRow ⟨hgr.os, hgr.tape, hgr.output, hgr.size, fun j hj => hgr.block j hj (by simp)⟩ hr

set_option maxHeartbeats 1000000 in
theorem ibI_any (c f d g : Int) (w : World) :
    Calls Tryd.prog 48 #[.agg #[.int .i64 c, .int .i64 f], .agg #[.int .i64 d, .int .i64 g]] w fun e w' => e = .returned (.bool (btB c f d g)) ∧ Below w.heap.size w w' := by
  have hO := Own.start w
  have hF := True.intro
  go_enter Tryd.func48, Tryd.ntmps48
  go_wp2_with fail
  all_goals go_ret
  all_goals exact ⟨ret_bool (by unfold btB; simp_all), Own.base (by (repeat (first | (with_reducible exact hO) | (with_reducible apply Own.alloc) | (with_reducible apply Own.drew) | ((with_reducible apply Own.set_at); (focus (show _ ≤ _; omega))))))⟩
theorem ibI_is {c f d g : Int} {b : Bool} (w : World) (h : btB c f d g = b) :
    Calls Tryd.prog 48 #[.agg #[.int .i64 c, .int .i64 f], .agg #[.int .i64 d, .int .i64 g]] w fun e w' => e = .returned (.bool b) ∧ Below w.heap.size w w' := by
  subst h; exact ibI_any c f d g w

theorem infoS : (Tryd.prog.info? 56).map (fun i => (i.zero, i.size, i.bytes)) = some (some (.agg #[.int .i64 0, .int .i64 0]), 2, 16) := by kernel_rfl

/-- The cells of the first k sums. -/
def smC (k : Nat) : List Value := (List.range k).flatMap fun i => [.int .i64 (cntZ i), .int .i64 (next i)]
theorem smC_up (k : Nat) : smC (k + 1) = smC k ++ [.int .i64 (cntZ k), .int .i64 (next k)] := by
  unfold smC
  rw [List.range_succ, List.flatMap_append]
  simp
theorem smC_len : ∀ k : Nat, (smC k).length = k * 2
  | 0 => rfl
  | k + 1 => by rw [smC_up, List.length_append, smC_len k]; simp; omega
theorem smC_at : ∀ {k j : Nat}, j < k → (smC k)[j * 2]? = some (.int .i64 (cntZ j)) ∧ (smC k)[j * 2 + 1]? = some (.int .i64 (next j))
  | 0, j, h => by omega
  | k + 1, j, h => by
    have hl := smC_len k
    rw [smC_up]
    by_cases e : j = k
    · subst e
      rw [List.getElem?_append_right (by omega), List.getElem?_append_right (by omega), hl, show j * 2 - j * 2 = 0 by omega, show j * 2 + 1 - j * 2 = 1 by omega]
      exact ⟨rfl, rfl⟩
    · have := smC_at (k := k) (j := j) (by omega)
      rw [List.getElem?_append_left (by omega), List.getElem?_append_left (by omega)]
      exact this
/-- The first i sums are laid; the next one holds x; the rest is zero. -/
def midC (n i : Nat) (x : Int × Int) : List Value := smC i ++ (.int .i64 x.1 :: .int .i64 x.2 :: List.replicate (2 * (n - i)) (.int .i64 0))
theorem midC_low {n i j : Nat} {x : Int × Int} (h : j < i) : (midC n i x)[j * 2]? = some (.int .i64 (cntZ j)) := by
  have hl := smC_len i
  unfold midC
  rw [List.getElem?_append_left (by omega)]
  exact (smC_at h).1
theorem midC_here {n i : Nat} {x : Int × Int} : (midC n i x)[i * 2]? = some (.int .i64 x.1) ∧ (midC n i x)[i * 2 + 1]? = some (.int .i64 x.2) := by
  have hl := smC_len i
  unfold midC
  rw [List.getElem?_append_right (by omega), List.getElem?_append_right (by omega), hl, show i * 2 - i * 2 = 0 by omega, show i * 2 + 1 - i * 2 = 1 by omega]
  exact ⟨rfl, rfl⟩
theorem midC_set {n i : Nat} {x : Int × Int} {c f : Int} : ((midC n i x).set (i * 2) (.int .i64 c)).set (i * 2 + 1) (.int .i64 f) = midC n i (c, f) := by
  have hl := smC_len i
  unfold midC
  rw [List.set_append, if_neg (by omega), List.set_append, if_neg (by omega), hl, show i * 2 - i * 2 = 0 by omega, show i * 2 + 1 - i * 2 = 1 by omega]
  rfl
theorem midC_set0 {n i : Nat} {c f : Int} {x : Int × Int} (h : x.2 = f) : (midC n i x).set (i * 2) (.int .i64 c) = midC n i (c, f) := by
  have hl := smC_len i
  subst h
  unfold midC
  rw [List.set_append, if_neg (by omega), hl, show i * 2 - i * 2 = 0 by omega]
  rfl
theorem midC_next {n i : Nat} (h : i < n) : midC n i (cntZ i, next i) = midC n (i + 1) (0, 0) := by
  unfold midC
  rw [smC_up, List.append_assoc]
  congr 1
  rw [show 2 * (n - i) = 2 * (n - (i + 1)) + 1 + 1 by omega, List.replicate_succ, List.replicate_succ]
  rfl
theorem midC_last (n : Nat) : midC n n (cntZ n, next n) = smC (n + 1) := by
  unfold midC
  rw [smC_up, show 2 * (n - n) = 0 by omega]
  rfl
theorem madeS (n : Nat) : (madeCells (Value.agg #[.int .i64 0, .int .i64 0]).cells ((n + 1) * 2)).toList = List.replicate ((n + 1) * 2) (.int .i64 0) := by
  apply List.ext_getElem?
  intro j
  simp only [madeCells, Array.toList_map, Array.toList_range, List.getElem?_map, List.getElem?_replicate]
  by_cases hj : j < (n + 1) * 2
  · rw [if_pos hj, List.getElem?_range hj]
    have h2 : (Value.agg #[.int .i64 0, .int .i64 0]).cells = #[.int .i64 0, .int .i64 0] := by kernel_rfl
    rw [h2]
    simp only [Option.map_some, List.size_toArray, List.length_cons, List.length_nil]
    obtain h | h : j % 2 = 0 ∨ j % 2 = 1 := by omega
    all_goals simp [h]
  · rw [if_neg hj, List.getElem?_eq_none (by simpa using hj)]; rfl
theorem midC_start (n : Nat) (h : 1 ≤ n) : (madeCells (Value.agg #[.int .i64 0, .int .i64 0]).cells ((n + 1) * 2)).toList = midC n 1 (0, 0) := by
  have h1 : midC n 0 (0, 0) = midC n 1 (0, 0) := by rw [← midC_next (by omega), cnt_zero, next_zero]
  rw [madeS, ← h1]
  unfold midC
  rw [show (n + 1) * 2 = 2 * (n - 0) + 1 + 1 by omega, List.replicate_succ, List.replicate_succ]
  rfl

set_option maxHeartbeats 8000000 in
theorem smI_any (n : Nat) (w : World) (hT : TabB w) (hD : TabD w) (h0 : 1 ≤ n) (h1 : n ≤ 768) :
    Calls Tryd.prog 40 #[.int .i64 n] w (RowOut 56 2 (n + 1) (smC (n + 1)) w) := by
  have hO := Own.start w
  have hF := True.intro
  have HA := hid (And.intro hT hD)
  clear hT hD
  obtain ⟨i0, hi, hz0, hz1, hz2⟩ := info_parts infoS
  go_enter Tryd.func40, Tryd.ntmps40
  go_wp2_with (first | ((go_at_call 47; apply own_at hO; (repeat (first | (with_reducible exact hO) | (with_reducible apply Own.alloc) | (with_reducible apply Own.drew) | ((with_reducible apply Own.set_at); (focus (show _ ≤ _; omega))))); have hG := hF; clear hF; clear hO; intro hO; refine own_call_row hO (fun hB => vlI_any _ (HA.out.1.below hB) (HA.out.2.below hB)) ?_; clear hO; intro v w1 hO; (try simp only [World.size_alloc1, World.size_drew, Nat.reduceAdd] at hO); (try simp only [upd, updI, List.map_cons, List.map_nil, eq_self, if_true, if_false, reduceIte, Nat.add_eq_left, Nat.left_eq_add, Nat.reduceEqDiff, List.set_cons_zero, List.set_cons_succ, hG] at hO); clear hG; have hF := hO; (try simp only [Own, Item.Holds, apartI, CellsAt, Nat.reduceAdd, Nat.zero_add, List.mem_cons, List.not_mem_nil, or_false, forall_eq_or_imp, forall_eq, ne_eq, false_imp_iff, implies_true, and_true] at hF)); obtain ⟨q, cap, hv1, hq1, hq2⟩ := hO.row_open (by omega); subst hv1; unfold maxLen at hq2; clear hF; have hF := True.intro) | (at_make; go_loud (refine wpList_make_item rfl _ _ 53 rfl 56 i0 (.agg #[.int .i64 0, .int .i64 0]) 2 16 Tryd.underlying53 hi hz0 hz1 hz2 _ _ _ _ (n + 1) rfl rfl (by omega) (by omega) (by omega) (by unfold maxLen; omega) (by (repeat (first | (with_reducible exact hO) | (with_reducible apply Own.alloc) | (with_reducible apply Own.drew) | ((with_reducible apply Own.set_at); (focus (show _ ≤ _; omega)))))) ?_); clear hO hF; intro qs w2 hO; have hF := True.intro))
  rw [midC_start n h0] at hO
  go_loopw [5] (fun t wr => ∃ i : Nat, 1 ≤ i ∧ i ≤ n + 1 ∧ t = .int .i64 i ∧ Own w.heap.size (Below w.heap.size w) wr [.row 56 2 (.slice (some ⟨qs, 0, none⟩) (n + 1) (n + 1)) (n + 1) (if i = n + 1 then smC (n + 1) else midC n i (0, 0)), .row 3 1 (.slice (some ⟨q, 0, none⟩) 30 cap) 30 (tkC 30)]) (fun t _ => n + 1 - (intOf t).toNat)
  case atStart => exact ⟨1, by omega, by omega, rfl, by rw [if_neg (by omega)]; exact hO⟩
  case round =>
    clear hO hF
    obtain ⟨i, i1, i2, rfl, hO⟩ := hrel
    by_cases hn : i = n + 1
    · subst hn
      rw [if_pos rfl] at hO
      have q0 : (n : Int) < n + 1 := by omega
      go_wp2_with fail
      go_ret
      exact RowOut.mk hO
    · rw [if_neg hn] at hO
      have hlt : i ≤ n := by omega
      have q0 : (i : Int) ≤ n := by omega
      have q1 : (i : Int) < n + 1 := by omega
      clear hn i2
      have c0 := hO.row_cell midC_here.1
      have r0 := hO.row_free (i * 2)
      have hO2 := hO.row_set (i * 2) (.int .i64 769)
      rw [midC_set0 (f := 0) rfl] at hO2
      clear hO
      go_wp2_with fail
      go_loopw [24] (fun t wr => ∃ k : Nat, k ≤ 30 ∧ t = .int .i64 k ∧ Own w.heap.size (Below w.heap.size w) wr [.row 56 2 (.slice (some ⟨qs, 0, none⟩) (n + 1) (n + 1)) (n + 1) (midC n i (betK i k)), .row 3 1 (.slice (some ⟨q, 0, none⟩) 30 cap) 30 (tkC 30)]) (fun t _ => (30 - intOf t).toNat)
      case atStart => exact ⟨0, by omega, rfl, hO2⟩
      case round =>
        clear hO2 c0 r0
        obtain ⟨k, hk, rfl, hO⟩ := hrel
        by_cases h30 : k = 30
        · subst h30
          go_wp2_with fail
          go_roundw
          case rel =>
            refine ⟨i + 1, by omega, by omega, by go_num, ?_⟩
            rw [bet_is i1 (by omega)] at hO
            by_cases e : i = n
            · subst e
              rw [if_pos rfl, ← midC_last]; exact hO
            · rw [if_neg (by omega), ← midC_next (by omega)]; exact hO
          case measure => simp [intOf]; omega
        · have hkl : k < 30 := by omega
          have q3 : (k : Int) < 30 := by omega
          clear h30 hk
          obtain ⟨_, _, _, m, _, htk, m0, m1, _, _, _, _, _⟩ := va_facts hkl
          have HU := hid (betK_up i k m htk)
          have cm := hO.2.row_cell (tkC_at htk)
          clear htk
          have xb := betK_bd i k
          obtain ⟨⟨c, f⟩, hx⟩ : ∃ x, betK i k = x := ⟨_, rfl⟩
          rw [hx] at HU xb hO
          simp only at xb
          clear hx
          by_cases hm : m ≤ i
          · have q4 : 0 ≤ (i : Int) - m := by omega
            have q5 : (i : Int) - m < n + 1 := by omega
            have hj : ((i : Int) - m).toNat < i := by omega
            have cb := cntZ_bd ((i : Int) - m).toNat
            have HS := hid (show betS i (c, f) m = if m ≤ i ∧ btB (cntZ ((i : Int) - m).toNat + 1) m c f = true then (cntZ ((i : Int) - m).toNat + 1, m) else (c, f) from rfl)
            have cj := hO.row_cell (midC_low hj)
            have HC := hid (@midC_here n i (c, f))
            obtain ⟨p, hp⟩ : ∃ p, cntZ ((i : Int) - m).toNat = p := ⟨_, rfl⟩
            rw [hp] at cb cj HS
            clear hp hj
            cases hb : btB (p + 1) m c f
            · have R := hid (show betK i (k + 1) = (c, f) by rw [HU.out, HS.out, if_neg (by simp [hb])])
              have HB := hid hb
              clear hb
              have hF := True.intro
              go_wp2_with fail
              apply own_code hO
              (repeat (first | (with_reducible exact hO) | (with_reducible apply Own.alloc) | (with_reducible apply Own.drew) | ((with_reducible apply Own.set_at); (focus (show _ ≤ _; omega)))))
              have hG := hF; clear hF; clear hO; intro hO
              (try simp only [World.size_alloc1, World.size_drew, Nat.reduceAdd] at hO); (try simp only [upd, updI, List.map_cons, List.map_nil, eq_self, if_true, if_false, reduceIte, Nat.add_eq_left, Nat.left_eq_add, Nat.reduceEqDiff, List.set_cons_zero, List.set_cons_succ, hG] at hO); clear hG
              refine region_own (X := fun _ => True) [] (by kernel_rfl) (hO) (trivial) (by first | exact XStab.true | exact XStab.rd) ?_
              clear hO
              refine Sim.take (i := 0) (d := some 41) (v := ?_) rfl rfl (by kernel_rfl) (by kernel_rfl) (by kernel_rfl) (by kernel_rfl) (fun _ _ _ h => h) (by first | exact XStab.true | exact XStab.rd) ?_ ?_
              rotate_left
              · first | refine Or.inl ⟨by rfl, fun w hO => ?_⟩ | (refine Or.inr ⟨by rfl, ?_⟩; with_reducible rfl)
                first | done | (have hF := hO; (try simp only [Own, Item.Holds, apartI, CellsAt, Nat.reduceAdd, Nat.zero_add, List.mem_cons, List.not_mem_nil, or_false, forall_eq_or_imp, forall_eq, ne_eq, false_imp_iff, implies_true, and_true] at hF); ((have cc := hO.2.row_cell HC.out.1; have cf := hO.2.row_cell HC.out.2)); refine Out.same ?_; go_simp; all_goals with_reducible rfl)
              try simp only [Act.put, List.setIfInBounds_toArray, List.set_cons_zero, List.set_cons_succ]
              refine Sim.takeP (i := 1) (d := some 42) (v := ?_) rfl rfl (by kernel_rfl) (by kernel_rfl) (by kernel_rfl) (fun _ _ _ h => h) (by first | exact XStab.true | exact XStab.rd) ?_ ?_
              rotate_left
              · first | refine Or.inl ⟨by rfl, fun w => ?_⟩ | (refine Or.inr ⟨by rfl, ?_⟩; with_reducible rfl)
                first | done | (go_simp; all_goals with_reducible rfl)
              try simp only [Act.put, List.setIfInBounds_toArray, List.set_cons_zero, List.set_cons_succ]
              refine Sim.takeP (i := 2) (d := some 43) (v := ?_) rfl rfl (by kernel_rfl) (by kernel_rfl) (by kernel_rfl) (fun _ _ _ h => h) (by first | exact XStab.true | exact XStab.rd) ?_ ?_
              rotate_left
              · first | refine Or.inl ⟨by rfl, fun w => ?_⟩ | (refine Or.inr ⟨by rfl, ?_⟩; with_reducible rfl)
                first | done | (go_simp; all_goals with_reducible rfl)
              try simp only [Act.put, List.setIfInBounds_toArray, List.set_cons_zero, List.set_cons_succ]
              refine Sim.takeP (i := 3) (d := some 44) (v := ?_) rfl rfl (by kernel_rfl) (by kernel_rfl) (by kernel_rfl) (fun _ _ _ h => h) (by first | exact XStab.true | exact XStab.rd) ?_ ?_
              rotate_left
              · first | refine Or.inl ⟨by rfl, fun w => ?_⟩ | (refine Or.inr ⟨by rfl, ?_⟩; with_reducible rfl)
                first | done | (go_simp; all_goals with_reducible rfl)
              try simp only [Act.put, List.setIfInBounds_toArray, List.set_cons_zero, List.set_cons_succ]
              refine Sim.take (i := 4) (d := some 45) (v := ?_) rfl rfl (by kernel_rfl) (by kernel_rfl) (by kernel_rfl) (by kernel_rfl) (fun _ _ _ h => h) (by first | exact XStab.true | exact XStab.rd) ?_ ?_
              rotate_left
              · first | refine Or.inl ⟨by rfl, fun w hO => ?_⟩ | (refine Or.inr ⟨by rfl, ?_⟩; with_reducible rfl)
                first | done | (have hF := hO; (try simp only [Own, Item.Holds, apartI, CellsAt, Nat.reduceAdd, Nat.zero_add, List.mem_cons, List.not_mem_nil, or_false, forall_eq_or_imp, forall_eq, ne_eq, false_imp_iff, implies_true, and_true] at hF); ((have cc := hO.2.row_cell HC.out.1; have cf := hO.2.row_cell HC.out.2)); refine Out.same ?_; go_simp; all_goals with_reducible rfl)
              try simp only [Act.put, List.setIfInBounds_toArray, List.set_cons_zero, List.set_cons_succ]
              refine Sim.take (i := 5) (d := some 46) (v := ?_) rfl rfl (by kernel_rfl) (by kernel_rfl) (by kernel_rfl) (by kernel_rfl) (fun _ _ _ h => h) (by first | exact XStab.true | exact XStab.rd) ?_ ?_
              rotate_left
              · first | refine Or.inl ⟨by rfl, fun w hO => ?_⟩ | (refine Or.inr ⟨by rfl, ?_⟩; with_reducible rfl)
                first | done | (refine Out.call (f := 48) (args := ?_) ?_ ?_; rotate_left; (focus (go_simp; all_goals with_reducible rfl)); exact ibI_is _ HB.out)
              try simp only [Act.put, List.setIfInBounds_toArray, List.set_cons_zero, List.set_cons_succ]
              refine Sim.done (by kernel_rfl) (fun w1 hO hX => ?_) _
              (try simp only [World.size_alloc1, World.size_drew, Nat.reduceAdd] at hO); (try simp only [upd, updI, List.map_cons, List.map_nil, eq_self, if_true, if_false, reduceIte, Nat.add_eq_left, Nat.left_eq_add, Nat.reduceEqDiff, List.set_cons_zero, List.set_cons_succ] at hO)
              have hF := hO; (try simp only [Own, Item.Holds, apartI, CellsAt, Nat.reduceAdd, Nat.zero_add, List.mem_cons, List.not_mem_nil, or_false, forall_eq_or_imp, forall_eq, ne_eq, false_imp_iff, implies_true, and_true] at hF)
              go_wp2
              go_roundw
              case rel => exact ⟨k + 1, by omega, by go_num, by rw [R.out]; exact hO.drop⟩
              case measure => simp [intOf]; omega
            · have R := hid (show betK i (k + 1) = (p + 1, m) by rw [HU.out, HS.out, if_pos ⟨hm, hb⟩])
              have HB := hid hb
              clear hb
              have hF := True.intro
              go_wp2_with fail
              apply own_code hO
              (repeat (first | (with_reducible exact hO) | (with_reducible apply Own.alloc) | (with_reducible apply Own.drew) | ((with_reducible apply Own.set_at); (focus (show _ ≤ _; omega)))))
              have hG := hF; clear hF; clear hO; intro hO
              (try simp only [World.size_alloc1, World.size_drew, Nat.reduceAdd] at hO); (try simp only [upd, updI, List.map_cons, List.map_nil, eq_self, if_true, if_false, reduceIte, Nat.add_eq_left, Nat.left_eq_add, Nat.reduceEqDiff, List.set_cons_zero, List.set_cons_succ, hG] at hO); clear hG
              refine region_own (X := fun _ => True) [] (by kernel_rfl) (hO) (trivial) (by first | exact XStab.true | exact XStab.rd) ?_
              clear hO
              refine Sim.take (i := 0) (d := some 41) (v := ?_) rfl rfl (by kernel_rfl) (by kernel_rfl) (by kernel_rfl) (by kernel_rfl) (fun _ _ _ h => h) (by first | exact XStab.true | exact XStab.rd) ?_ ?_
              rotate_left
              · first | refine Or.inl ⟨by rfl, fun w hO => ?_⟩ | (refine Or.inr ⟨by rfl, ?_⟩; with_reducible rfl)
                first | done | (have hF := hO; (try simp only [Own, Item.Holds, apartI, CellsAt, Nat.reduceAdd, Nat.zero_add, List.mem_cons, List.not_mem_nil, or_false, forall_eq_or_imp, forall_eq, ne_eq, false_imp_iff, implies_true, and_true] at hF); ((have cc := hO.2.row_cell HC.out.1; have cf := hO.2.row_cell HC.out.2)); refine Out.same ?_; go_simp; all_goals with_reducible rfl)
              try simp only [Act.put, List.setIfInBounds_toArray, List.set_cons_zero, List.set_cons_succ]
              refine Sim.takeP (i := 1) (d := some 42) (v := ?_) rfl rfl (by kernel_rfl) (by kernel_rfl) (by kernel_rfl) (fun _ _ _ h => h) (by first | exact XStab.true | exact XStab.rd) ?_ ?_
              rotate_left
              · first | refine Or.inl ⟨by rfl, fun w => ?_⟩ | (refine Or.inr ⟨by rfl, ?_⟩; with_reducible rfl)
                first | done | (go_simp; all_goals with_reducible rfl)
              try simp only [Act.put, List.setIfInBounds_toArray, List.set_cons_zero, List.set_cons_succ]
              refine Sim.takeP (i := 2) (d := some 43) (v := ?_) rfl rfl (by kernel_rfl) (by kernel_rfl) (by kernel_rfl) (fun _ _ _ h => h) (by first | exact XStab.true | exact XStab.rd) ?_ ?_
              rotate_left
              · first | refine Or.inl ⟨by rfl, fun w => ?_⟩ | (refine Or.inr ⟨by rfl, ?_⟩; with_reducible rfl)
                first | done | (go_simp; all_goals with_reducible rfl)
              try simp only [Act.put, List.setIfInBounds_toArray, List.set_cons_zero, List.set_cons_succ]
              refine Sim.takeP (i := 3) (d := some 44) (v := ?_) rfl rfl (by kernel_rfl) (by kernel_rfl) (by kernel_rfl) (fun _ _ _ h => h) (by first | exact XStab.true | exact XStab.rd) ?_ ?_
              rotate_left
              · first | refine Or.inl ⟨by rfl, fun w => ?_⟩ | (refine Or.inr ⟨by rfl, ?_⟩; with_reducible rfl)
                first | done | (go_simp; all_goals with_reducible rfl)
              try simp only [Act.put, List.setIfInBounds_toArray, List.set_cons_zero, List.set_cons_succ]
              refine Sim.take (i := 4) (d := some 45) (v := ?_) rfl rfl (by kernel_rfl) (by kernel_rfl) (by kernel_rfl) (by kernel_rfl) (fun _ _ _ h => h) (by first | exact XStab.true | exact XStab.rd) ?_ ?_
              rotate_left
              · first | refine Or.inl ⟨by rfl, fun w hO => ?_⟩ | (refine Or.inr ⟨by rfl, ?_⟩; with_reducible rfl)
                first | done | (have hF := hO; (try simp only [Own, Item.Holds, apartI, CellsAt, Nat.reduceAdd, Nat.zero_add, List.mem_cons, List.not_mem_nil, or_false, forall_eq_or_imp, forall_eq, ne_eq, false_imp_iff, implies_true, and_true] at hF); ((have cc := hO.2.row_cell HC.out.1; have cf := hO.2.row_cell HC.out.2)); refine Out.same ?_; go_simp; all_goals with_reducible rfl)
              try simp only [Act.put, List.setIfInBounds_toArray, List.set_cons_zero, List.set_cons_succ]
              refine Sim.take (i := 5) (d := some 46) (v := ?_) rfl rfl (by kernel_rfl) (by kernel_rfl) (by kernel_rfl) (by kernel_rfl) (fun _ _ _ h => h) (by first | exact XStab.true | exact XStab.rd) ?_ ?_
              rotate_left
              · first | refine Or.inl ⟨by rfl, fun w hO => ?_⟩ | (refine Or.inr ⟨by rfl, ?_⟩; with_reducible rfl)
                first | done | (refine Out.call (f := 48) (args := ?_) ?_ ?_; rotate_left; (focus (go_simp; all_goals with_reducible rfl)); exact ibI_is _ HB.out)
              try simp only [Act.put, List.setIfInBounds_toArray, List.set_cons_zero, List.set_cons_succ]
              refine Sim.done (by kernel_rfl) (fun w1 hO hX => ?_) _
              (try simp only [World.size_alloc1, World.size_drew, Nat.reduceAdd] at hO); (try simp only [upd, updI, List.map_cons, List.map_nil, eq_self, if_true, if_false, reduceIte, Nat.add_eq_left, Nat.left_eq_add, Nat.reduceEqDiff, List.set_cons_zero, List.set_cons_succ] at hO)
              have hF := hO; (try simp only [Own, Item.Holds, apartI, CellsAt, Nat.reduceAdd, Nat.zero_add, List.mem_cons, List.not_mem_nil, or_false, forall_eq_or_imp, forall_eq, ne_eq, false_imp_iff, implies_true, and_true] at hF)
              have cc := hO.2.row_cell HC.out.1
              have cf := hO.2.row_cell HC.out.2
              have r0 := hO.drop.row_free (i * 2)
              have r1 := hO.drop.row_free (i * 2 + 1)
              have hO2 := (hO.drop.row_set (i * 2) (.int .i64 (p + 1))).row_set (i * 2 + 1) (.int .i64 m)
              rw [midC_set] at hO2
              clear hO
              go_wp2
              go_roundw
              case rel => exact ⟨k + 1, by omega, by go_num, by rw [R.out]; exact hO2⟩
              case measure => simp [intOf]; omega
          · have R := hid (show betK i (k + 1) = (c, f) by rw [HU.out, betS, if_neg (fun h => hm h.1)])
            have q4 : (i : Int) < m := by omega
            go_wp2_with fail
            go_roundw
            case rel => exact ⟨k + 1, by omega, by go_num, by rw [R.out]; exact hO⟩
            case measure => simp [intOf]; omega
end Go.Proofs.YtblbfmijaalgcaaDoor
