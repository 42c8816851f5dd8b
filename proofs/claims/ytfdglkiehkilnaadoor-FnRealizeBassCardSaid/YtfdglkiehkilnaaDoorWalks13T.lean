/- Chapter 13 in the model: all chords over a bass. -/
import Derived.Test.YtfdglkiehkilnaaDoorWalks13S
import Derived.Test.YtfdglkiehkilnaaDoorStks
import Derived.Test.YtfdglkiehkilnaaDoorCon13
import Derived.Test.YtfdglkiehkilnaaDoorRegionD
namespace Go.Proofs.YtfdglkiehkilnaaDoor
set_option linter.unusedSimpArgs false
set_option linter.unusedVariables false
set_option maxRecDepth 8000
open Go.RowKit

/- The pitches above a bass, one by one. -/
def cdP (a : Int) (t : Pt) (n : Nat) : List Pt := (List.range n).flatMap fun (o : Nat) => if kyP ⟨t.s, t.a, (o : Int)⟩ = a then [⟨t.s, t.a, (o : Int)⟩] else []
def cdK (a : Int) (ts : List Pt) (n : Nat) : List Pt := (ts.take n).flatMap (cdO a)
def cdN (ts : List Pt) (n : Nat) : List Pt := (List.range n).flatMap fun (k : Nat) => cdT (36 + (k : Int)) ts
theorem cdP_up (a : Int) (t : Pt) (n : Nat) : cdP a t (n + 1) = cdP a t n ++ (if kyP ⟨t.s, t.a, (n : Int)⟩ = a then [⟨t.s, t.a, (n : Int)⟩] else []) := by
  unfold cdP; rw [List.range_succ, List.flatMap_append]; simp
theorem cdK_up {a : Int} {ts : List Pt} {n : Nat} {t : Pt} (h : ts[n]? = some t) : cdK a ts (n + 1) = cdK a ts n ++ cdP a t 9 := by
  unfold cdK; rw [List.take_add_one, h, List.flatMap_append]; simp [cdO, cdP]
theorem cdN_up (ts : List Pt) (n : Nat) : cdN ts (n + 1) = cdN ts n ++ cdK (36 + (n : Int)) ts ts.length := by
  unfold cdN; rw [List.range_succ, List.flatMap_append]; simp [cdT, cdK]
theorem cdP_len (a : Int) (t : Pt) : ∀ n, (cdP a t n).length ≤ n
  | 0 => by simp [cdP]
  | n + 1 => by
    rw [cdP_up, List.length_append]
    have := cdP_len a t n
    split <;> simp <;> omega
theorem cdK_len (a : Int) (ts : List Pt) : ∀ n, (cdK a ts n).length ≤ 9 * n
  | 0 => by simp [cdK]
  | n + 1 => by
    have := cdK_len a ts n
    by_cases h : n < ts.length
    · rw [cdK_up (List.getElem?_eq_getElem h), List.length_append]
      have := cdP_len a ts[n] 9
      omega
    · have e : cdK a ts (n + 1) = cdK a ts n := by unfold cdK; rw [List.take_of_length_le (by omega), List.take_of_length_le (by omega)]
      rw [e]; omega
theorem cdN_len {ts : List Pt} (h : ts.length ≤ 4) : ∀ n, (cdN ts n).length ≤ 36 * n
  | 0 => by simp [cdN]
  | n + 1 => by
    rw [cdN_up, List.length_append]
    have := cdN_len h n
    have := cdK_len (36 + (n : Int)) ts ts.length
    omega
theorem skK_len (x : Pt) (ts c : List Pt) (i j : Nat) : ∀ m, (skK x ts c i j (List.range' j m)).length ≤ m
  | 0 => by simp [skK]
  | m + 1 => by
    rw [skK_up, List.length_append]
    have := skK_len x ts c i j m
    split <;> simp <;> omega
theorem skJ_len (x : Pt) (ts c : List Pt) (i : Nat) : ∀ m, (skJ x ts c i (List.range' i m)).length ≤ c.length * m
  | 0 => by simp [skJ]
  | m + 1 => by
    rw [skJ_up, List.length_append]
    have := skJ_len x ts c i m
    have := skK_len x ts c i (i + m) (c.length - (i + m))
    rw [Nat.mul_add]
    omega
theorem skI_len (x : Pt) (ts c : List Pt) : ∀ m, (skI x ts c (List.range' 0 m)).length ≤ c.length * c.length * m
  | 0 => by simp [skI]
  | m + 1 => by
    rw [skI_up, List.length_append]
    have := skI_len x ts c m
    have h1 := skJ_len x ts c m (c.length - m)
    have h2 : c.length * (c.length - m) ≤ c.length * c.length := Nat.mul_le_mul_left _ (by omega)
    rw [Nat.mul_add]
    omega
theorem ftS_it {f : Int} {x : Pt} {g : Int} {T : List Pt} {q : Nat} (hT : ftL f x g = T) (hq : T.length = q) (W : World) :
    Calls Tryd.prog 110 #[.int .i64 f, .agg #[.int .i64 x.s, .int .i64 x.a, .int .i64 x.o], .int .i64 g] W (RowOut 29 3 q (pcC T) W) := by
  subst hT hq; exact ftS_any f x g W

set_option maxRecDepth 20000 in
set_option maxHeartbeats 8000000 in
theorem skS_nil (f : Int) (x : Pt) (g : Int) (w : World) (h : ftL f x g = []) :
    Calls Tryd.prog 85 #[.int .i64 f, .agg #[.int .i64 x.s, .int .i64 x.a, .int .i64 x.o], .int .i64 g] w (StkOut (skL f x g) w) := by
  have hO := Own.start w
  have hF := True.intro
  have HE := hid (show skL f x g = [] by
    refine List.eq_nil_iff_forall_not_mem.2 fun s hs => ?_
    exact (sk_is hs).1 h)
  have HFT := hid (fun W => ftS_it h (q := 0) rfl W)
  clear h
  rw [HE.out]
  go_enter Tryd.func85, Tryd.ntmps85
  go_wp2_with ((go_at_call 110; apply own_at hO; (repeat (first | (with_reducible exact hO) | (with_reducible apply Own.alloc) | (with_reducible apply Own.drew) | ((with_reducible apply Own.set_at); (focus (show _ ≤ _; omega))))); have hG := hF; clear hF; clear hO; intro hO; refine own_call_row hO (fun hB => HFT.out _) ?_; clear hO; intro v w1 hO; (try simp only [World.size_alloc1, World.size_drew, Nat.reduceAdd] at hO); (try simp only [upd, updI, List.map_cons, List.map_nil, eq_self, if_true, if_false, reduceIte, Nat.add_eq_left, Nat.left_eq_add, Nat.reduceEqDiff, List.set_cons_zero, List.set_cons_succ, hG] at hO); clear hG; have hF := hO; (try simp only [Own, Item.Holds, apartI, CellsAt, Nat.reduceAdd, Nat.zero_add, List.mem_cons, List.not_mem_nil, or_false, forall_eq_or_imp, forall_eq, ne_eq, false_imp_iff, implies_true, and_true] at hF)); obtain ⟨AT, cT, hvT⟩ := (SlAt.of_row hO.1.1).form; subst hvT)
  go_loopw [8, 9] (fun u t wr => t = .int .i64 36 ∧ Own w.heap.size (Below w.heap.size w) wr [.row 29 3 u 0 []]) (fun _ _ _ => 0)
  case atStart => exact ⟨rfl, Own.sub (.cons_cons _ (.cons _ (.cons _ .slnil))) (hO.allocRow (e := 29) (cur := #[]) (k := 0) (cap := 0) 3 (by omega) (by unfold maxLen; omega) rfl)⟩
  case round =>
    clear hO hF
    obtain ⟨rfl, hO⟩ := hrel
    obtain ⟨Ac, cc, hvc⟩ := (SlAt.of_row hO.1.1).form
    subst hvc
    have hF := True.intro
    have hF := hO; (try simp only [Own, Item.Holds, apartI, CellsAt, Nat.reduceAdd, Nat.zero_add, List.mem_cons, List.not_mem_nil, or_false, forall_eq_or_imp, forall_eq, ne_eq, false_imp_iff, implies_true, and_true] at hF)
    go_wp2_with fail
    go_loopw [13, 14] (fun u t wr => t = .int .i64 0 ∧ Own w.heap.size (Below w.heap.size w) wr (.row 23 1 u 0 (vsO []) :: (rwP [] ++ []))) (fun _ _ _ => 0)
    case atStart => exact ⟨rfl, Own.sub (.cons_cons _ (.cons _ .slnil)) (hO.allocRow (e := 23) (cur := #[]) (k := 0) (cap := 0) 1 (by omega) (by unfold maxLen; omega) rfl)⟩
    case round =>
      clear hO hF
      obtain ⟨rfl, hO⟩ := hrel
      have hF := True.intro
      go_wp2_with fail
      go_ret
      exact StkOut.mk rfl rfl hO

theorem one1k {A : Option Addr} {k c : Nat} : ∀ u ∈ [Value.slice A k c], u.oneCell' = true := by
  intro u hu
  simp at hu
  subst hu
  rfl
theorem stk_snoc {n : Nat} {B : World → Prop} {w : World} {v V : Value} {es : List (Value × List Pt)} {s : List Pt} {L : List Item} (h : Own n B w (.row 23 1 v (es.length + 1) (vsO es ++ [V]) :: .row 29 3 V s.length (pcC s) :: (rwP es ++ L))) :
    Own n B w (.row 23 1 v (es ++ [(V, s)]).length (vsO (es ++ [(V, s)])) :: (rwP (es ++ [(V, s)]) ++ L)) := by
  have e1 : vsO (es ++ [(V, s)]) = vsO es ++ [V] := by simp [vsO]
  have e2 : rwP (es ++ [(V, s)]) = rwP es ++ [.row 29 3 V s.length (pcC s)] := by rw [rwP_append]; rfl
  rw [e1, e2, List.length_append, List.append_assoc]
  exact h.perm (List.Perm.cons _ (List.perm_middle (l₁ := rwP es)).symm)
theorem pcC_up {L : List Pt} {s a o : Int} : pcC L ++ [.int .i64 s, .int .i64 a, .int .i64 o] = pcC (L ++ [⟨s, a, o⟩]) := by rw [pcC_append]; rfl

set_option maxRecDepth 20000 in
set_option maxHeartbeats 16000000 in
theorem skS_in (f : Int) (x : Pt) (g : Int) (w : World) (h : ftL f x g ≠ []) :
    Calls Tryd.prog 85 #[.int .i64 f, .agg #[.int .i64 x.s, .int .i64 x.a, .int .i64 x.o], .int .i64 g] w (StkOut (skL f x g) w) := by
  have hO := Own.start w
  have hF := True.intro
  obtain ⟨i0, hi0, hz0, hz1, hz2⟩ := info_parts infoPi
  obtain ⟨i1, hi1, hy0, hy1, hy2⟩ := info_parts infoSt
  have h4 := ft_len f x g
  obtain ⟨T, hT⟩ : ∃ T, ftL f x g = T := ⟨_, rfl⟩
  obtain ⟨r, hr⟩ : ∃ r, T.length = r := ⟨_, rfl⟩
  have HE := hid (show skL f x g = skI x T (cdL T) (List.range' 0 (cdL T).length) by unfold skL; rw [hT])
  have HFT := hid (fun W => ftS_it hT hr W)
  rw [hT] at h h4
  rw [hr] at h4
  have h0 : 0 < r := by rw [← hr]; exact List.length_pos_iff.2 h
  have h0' : 0 < (r : Int) := by omega
  have HR := hid hr
  have HNL := hid (fun m => cdN_len (ts := T) (by rw [hr]; exact h4) m)
  have HBX := hid (fun (W : World) (L : List Item) (h : Own w.heap.size (Below w.heap.size w) W L) (hm : Item.blk w.heap.size [.int .i64 x.s, .int .i64 x.a, .int .i64 x.o] ∈ L) => And.intro (own_ints (b := w.heap.size) (k := 0) [x.s, x.a, x.o] h hm rfl) (And.intro (own_ints (b := w.heap.size) (k := 1) [x.s, x.a, x.o] h hm rfl) (own_ints (b := w.heap.size) (k := 2) [x.s, x.a, x.o] h hm rfl)))
  clear h hT hr
  go_enter Tryd.func85, Tryd.ntmps85
  go_wp2_with ((go_at_call 110; apply own_at hO; (repeat (first | (with_reducible exact hO) | (with_reducible apply Own.alloc) | (with_reducible apply Own.drew) | ((with_reducible apply Own.set_at); (focus (show _ ≤ _; omega))))); have hG := hF; clear hF; clear hO; intro hO; refine own_call_row hO (fun hB => HFT.out _) ?_; clear hO; intro v w1 hO; (try simp only [World.size_alloc1, World.size_drew, Nat.reduceAdd] at hO); (try simp only [upd, updI, List.map_cons, List.map_nil, eq_self, if_true, if_false, reduceIte, Nat.add_eq_left, Nat.left_eq_add, Nat.reduceEqDiff, List.set_cons_zero, List.set_cons_succ, hG] at hO); clear hG; have hF := hO; (try simp only [Own, Item.Holds, apartI, CellsAt, Nat.reduceAdd, Nat.zero_add, List.mem_cons, List.not_mem_nil, or_false, forall_eq_or_imp, forall_eq, ne_eq, false_imp_iff, implies_true, and_true] at hF)); obtain ⟨q, cT, hvT, hq1, hq2⟩ := hO.row_open h0; subst hvT; clear hq1 hq2)
  go_loopw [8, 9] (fun u t wr => ∃ m : Nat, m ≤ 32 ∧ t = .int .i64 (36 + (m : Int)) ∧ Own w.heap.size (Below w.heap.size w) wr [.row 29 3 u (cdN T m).length (pcC (cdN T m)), .row 29 3 (.slice (some ⟨q, 0, none⟩) r cT) r (pcC T), .blk w.heap.size [.int .i64 x.s, .int .i64 x.a, .int .i64 x.o]]) (fun _ t _ => 68 - (intOf t).toNat)
  case atStart => exact ⟨0, by omega, rfl, hO.allocRow (e := 29) (cur := #[]) (k := 0) (cap := 0) 3 (by omega) (by unfold maxLen; omega) rfl⟩
  case round =>
    clear hO hF
    obtain ⟨m, hm, rfl, hO⟩ := hrel
    have hnl := HNL.out m
    have hF := hO; (try simp only [Own, Item.Holds, apartI, CellsAt, Nat.reduceAdd, Nat.zero_add, List.mem_cons, List.not_mem_nil, or_false, forall_eq_or_imp, forall_eq, ne_eq, false_imp_iff, implies_true, and_true] at hF)
    by_cases he : m = 32
    · subst he
      rw [show (36 : Int) + ((32 : Nat) : Int) = 68 from rfl]
      have hn9 := HNL.out 32
      have HE2 := hid (show skL f x g = skI x T (cdN T 32) (List.range' 0 (cdN T 32).length) from HE.out)
      obtain ⟨c, hc⟩ : ∃ c, cdN T 32 = c := ⟨_, rfl⟩
      rw [hc] at hO HE2 hn9
      obtain ⟨n, hn⟩ : ∃ n, c.length = n := ⟨_, rfl⟩
      rw [hn] at hO HE2 hn9
      have HC := hid hn
      obtain ⟨Ac, cc, hvc⟩ := (SlAt.of_row hO.1.1).form
      subst hvc
      have HSI := hid (fun i => skI_len x T c i)
      have HSJ := hid (fun i m => skJ_len x T c i m)
      have HSK := hid (fun i j m => skK_len x T c i j m)
      clear hm hnl hc hn hF
      have hF := hO; (try simp only [Own, Item.Holds, apartI, CellsAt, Nat.reduceAdd, Nat.zero_add, List.mem_cons, List.not_mem_nil, or_false, forall_eq_or_imp, forall_eq, ne_eq, false_imp_iff, implies_true, and_true] at hF)
      go_wp2_with fail
      go_loopw [13, 14] (fun u t wr => ∃ (i : Nat) (es : List (Value × List Pt)), i ≤ n ∧ t = .int .i64 i ∧ Hid (lsO es = skI x T c (List.range' 0 i)) ∧ Own w.heap.size (Below w.heap.size w) wr (.row 23 1 u es.length (vsO es) :: (rwP es ++ [.row 29 3 (.slice Ac n cc) n (pcC c), .row 29 3 (.slice (some ⟨q, 0, none⟩) r cT) r (pcC T), .blk w.heap.size [.int .i64 x.s, .int .i64 x.a, .int .i64 x.o]]))) (fun _ t _ => n - (intOf t).toNat)
      case atStart => exact ⟨0, [], by omega, rfl, rfl, hO.allocRow (e := 23) (cur := #[]) (k := 0) (cap := 0) 1 (by omega) (by unfold maxLen; omega) rfl⟩
      case round =>
        clear hO hF
        obtain ⟨i, es, hi, rfl, hes, hO⟩ := hrel
        have hF := True.intro
        by_cases he : i = n
        · subst he
          go_wp2_with fail
          go_ret
          rw [HE2.out]
          exact StkOut.mk hes.out rfl hO
        · have hil : i < n := by omega
          have hil2 : (i : Int) < (n : Int) := by omega
          have hi0 : (0 : Int) ≤ (i : Int) := by omega
          have b1 := HSI.out i
          obtain ⟨S0, hS0⟩ : ∃ S, skI x T c (List.range' 0 i) = S := ⟨_, rfl⟩
          have HU0 := hid (show skI x T c (List.range' 0 (i + 1)) = S0 ++ skJ x T c i (List.range' i (n - i)) by rw [skI_up, hS0, HC.out])
          have bn : n * n * i ≤ 1152 * 1152 * 1152 := Nat.mul_le_mul (Nat.mul_le_mul hn9 hn9) (by omega)
          rw [hS0, HC.out] at b1
          have B0 := hid (show S0.length ≤ 1528823808 from Nat.le_trans b1 bn)
          have hes0 := hes.out.trans hS0
          have HS0 := hid hes0
          clear he b1 bn hS0 hes hes0
          go_wp2_with fail
          go_loopw [13, 15] (fun u t wr => ∃ (j : Nat) (es : List (Value × List Pt)), i ≤ j ∧ j ≤ n ∧ t = .int .i64 j ∧ Hid (lsO es = S0 ++ skJ x T c i (List.range' i (j - i))) ∧ Own w.heap.size (Below w.heap.size w) wr (.row 23 1 u es.length (vsO es) :: (rwP es ++ [.row 29 3 (.slice Ac n cc) n (pcC c), .row 29 3 (.slice (some ⟨q, 0, none⟩) r cT) r (pcC T), .blk w.heap.size [.int .i64 x.s, .int .i64 x.a, .int .i64 x.o]]))) (fun _ t _ => n - (intOf t).toNat)
          case atStart => exact ⟨i, es, by omega, by omega, rfl, by rw [Nat.sub_self]; show lsO es = S0 ++ []; rw [List.append_nil]; exact HS0.out, hO⟩
          case round =>
            clear hO HS0 hF
            obtain ⟨j, es, hij, hj, rfl, hes, hO⟩ := hrel
            have hF := True.intro
            by_cases he : j = n
            · subst he
              have HN := hid (hes.out.trans HU0.out.symm)
              go_wp2_with fail
              go_roundw
              case rel => exact ⟨i + 1, es, by omega, by go_num, HN.out, hO⟩
              case measure => simp [intOf]; omega
            · have hjl : j < n := by omega
              have hjl2 : (j : Int) < (n : Int) := by omega
              have hj0 : (0 : Int) ≤ (j : Int) := by omega
              have b1 := HSJ.out i (j - i)
              rw [HC.out] at b1
              have bn : n * (j - i) ≤ 1152 * 1152 := Nat.mul_le_mul hn9 (by omega)
              have HU1 := hid (show S0 ++ skJ x T c i (List.range' i (j + 1 - i)) = (S0 ++ skJ x T c i (List.range' i (j - i))) ++ skK x T c i j (List.range' j (n - j)) by
                rw [show j + 1 - i = (j - i) + 1 by omega, skJ_up, show i + (j - i) = j by omega, HC.out, List.append_assoc])
              obtain ⟨S1, hS1⟩ : ∃ S, S0 ++ skJ x T c i (List.range' i (j - i)) = S := ⟨_, rfl⟩
              have B1 := hid (show S1.length ≤ 1528823808 + 1327104 by rw [← hS1, List.length_append]; have := B0.out; omega)
              rw [hS1] at HU1
              have HS1 := hid (hes.out.trans hS1)
              clear he b1 bn hS1 hes
              go_wp2_with fail
              go_loopw [13, 16] (fun u t wr => ∃ (k : Nat) (es : List (Value × List Pt)), j ≤ k ∧ k ≤ n ∧ t = .int .i64 k ∧ Hid (lsO es = S1 ++ skK x T c i j (List.range' j (k - j))) ∧ Own w.heap.size (Below w.heap.size w) wr (.row 23 1 u es.length (vsO es) :: (rwP es ++ [.row 29 3 (.slice Ac n cc) n (pcC c), .row 29 3 (.slice (some ⟨q, 0, none⟩) r cT) r (pcC T), .blk w.heap.size [.int .i64 x.s, .int .i64 x.a, .int .i64 x.o]]))) (fun _ t _ => n - (intOf t).toNat)
              case atStart => exact ⟨j, es, by omega, by omega, rfl, by rw [Nat.sub_self]; show lsO es = S1 ++ []; rw [List.append_nil]; exact HS1.out, hO⟩
              case round =>
                clear hO HS1 hF
                obtain ⟨k, es, hjk, hk, rfl, hes, hO⟩ := hrel
                have hF := True.intro
                by_cases he : k = n
                · subst he
                  have HN := hid (hes.out.trans HU1.out.symm)
                  go_wp2_with fail
                  go_roundw
                  case rel => exact ⟨j + 1, es, by omega, by omega, by go_num, HN.out, hO⟩
                  case measure => simp [intOf]; omega
                · have hkl : k < n := by omega
                  have hkl2 : (k : Int) < (n : Int) := by omega
                  have hk0 : (0 : Int) ≤ (k : Int) := by omega
                  obtain ⟨b6, o6, c6, hv6⟩ : ∃ b6 o6 c6, Value.slice Ac n cc = .slice (some ⟨b6, o6, none⟩) n c6 := by
                    rcases (SlAt.of_row (hO.holds (.row 29 3 (.slice Ac n cc) n (pcC c)) (by simp))).2 with ⟨h, h0⟩ | ⟨b6, o6, c6, h1, _⟩
                    · omega
                    · exact ⟨b6, o6, c6, h1⟩
                  cases hv6
                  obtain ⟨y1, hy1'⟩ : ∃ y, c[i]? = some y := ⟨_, List.getElem?_eq_getElem (by have := HC.out; omega)⟩
                  obtain ⟨y2, hy2'⟩ : ∃ y, c[j]? = some y := ⟨_, List.getElem?_eq_getElem (by have := HC.out; omega)⟩
                  obtain ⟨y3, hy3'⟩ : ∃ y, c[k]? = some y := ⟨_, List.getElem?_eq_getElem (by have := HC.out; omega)⟩
                  have gd : ∀ {m : Nat} {y : Pt}, c[m]? = some y → c.getD m x = y := fun h => by rw [List.getD_eq_getElem?_getD, h]; rfl
                  have HUP := hid (show S1 ++ skK x T c i j (List.range' j (k + 1 - j)) = (S1 ++ skK x T c i j (List.range' j (k - j))) ++ (if okS T [x, y1, y2, y3] = true then [[x, y1, y2, y3]] else []) by
                    rw [show k + 1 - j = (k - j) + 1 by omega, skK_up, show j + (k - j) = k by omega, gd hy1', gd hy2', gd hy3', List.append_assoc])
                  have hel : es.length ≤ 1528823808 + 1327104 + 1152 := by
                    have h1 : (lsO es).length = es.length := List.length_map ..
                    rw [← h1, hes.out, List.length_append]
                    have := B1.out
                    have := HSK.out i j (k - j)
                    omega
                  obtain ⟨z, hz⟩ : ∃ z, stZ [x, y1, y2, y3] = z := ⟨_, rfl⟩
                  obtain ⟨du, hdu⟩ : ∃ b, T.all (hasB [x, y1, y2, y3]) = b := ⟨_, rfl⟩
                  have hok : okS T [x, y1, y2, y3] = (decide (z = 0) && du) := by unfold okS; rw [hz, hdu]
                  rw [hok] at HUP
                  have HY := hid (And.intro hy1' (And.intro hy2' hy3'))
                  have HSF := hid (fun va W (ha : SlAt W va 4 3 (pcC [x, y1, y2, y3])) => stS_is (n := 4) rfl (by omega) hz ha W (Below.refl _ _))
                  have HFU := hid (fun va vb W (ha : SlAt W va 4 3 (pcC [x, y1, y2, y3])) (hb : SlAt W vb r 3 (pcC T)) => fuS_is (n := 4) rfl HR.out (by omega) (by omega) hdu ha hb W (Below.refl _ _))
                  clear he hy1' hy2' hy3' gd hz hdu hok
                  go_wp2_with fail
                  apply own_code hO
                  (repeat (first | (with_reducible exact hO) | (with_reducible apply Own.alloc) | (with_reducible apply Own.drew) | ((with_reducible apply Own.set_at); (focus (show _ ≤ _; omega)))))
                  have hG := hF; clear hF; clear hO; intro hO
                  (try simp only [World.size_alloc1, World.size_drew, Nat.reduceAdd] at hO); (try simp only [upd, updI, List.map_cons, List.map_nil, eq_self, if_true, if_false, reduceIte, Nat.add_eq_left, Nat.left_eq_add, Nat.reduceEqDiff, List.set_cons_zero, List.set_cons_succ, hG] at hO); clear hG
                  refine region_own (X := fun _ => True) [13] (by kernel_rfl) (hO) (trivial) (by first | exact XStab.true | exact XStab.rd | exact XStab.rdIf) ?_
                  clear hO
                  refine Sim.sO (i := 0) (d := some 83) (v := ?_) (hy := ?_) (h := ?_)
                  rotate_left
                  · first | refine Or.inl ⟨by rfl, fun w hO => ?_⟩ | (refine Or.inr ⟨by rfl, ?_⟩; with_reducible rfl)
                    first | done | (have hF := hO; (try simp only [Own, Item.Holds, apartI, CellsAt, Nat.reduceAdd, Nat.zero_add, List.mem_cons, List.not_mem_nil, or_false, forall_eq_or_imp, forall_eq, ne_eq, false_imp_iff, implies_true, and_true] at hF); ((have ⟨x0, x1, x2⟩ := HBX.out _ _ hO (by simp); have hcr := SlAt.of_row (hO.holds (.row 29 3 (.slice (some ⟨b6, o6, none⟩) n cc) n (pcC c)) (by simp)); have ⟨d0, d1, d2⟩ := ptAt hcr HY.out.1; have ⟨d3, d4, d5⟩ := ptAt hcr HY.out.2.1; have ⟨d6, d7, d8⟩ := ptAt hcr HY.out.2.2; clear hcr)); refine Out.same ?_; go_simp; all_goals with_reducible rfl)
                  refine Sim.sP (i := 1) (d := some 84) (h := ?_)
                  refine Sim.sP (i := 2) (d := some 85) (h := ?_)
                  refine Sim.sP (i := 3) (d := some 86) (h := ?_)
                  refine Sim.sO (i := 4) (d := some 87) (v := ?_) (hy := ?_) (h := ?_)
                  rotate_left
                  · first | refine Or.inl ⟨by rfl, fun w hO => ?_⟩ | (refine Or.inr ⟨by rfl, ?_⟩; with_reducible rfl)
                    first | done | (have hF := hO; (try simp only [Own, Item.Holds, apartI, CellsAt, Nat.reduceAdd, Nat.zero_add, List.mem_cons, List.not_mem_nil, or_false, forall_eq_or_imp, forall_eq, ne_eq, false_imp_iff, implies_true, and_true] at hF); ((have ⟨x0, x1, x2⟩ := HBX.out _ _ hO (by simp); have hcr := SlAt.of_row (hO.holds (.row 29 3 (.slice (some ⟨b6, o6, none⟩) n cc) n (pcC c)) (by simp)); have ⟨d0, d1, d2⟩ := ptAt hcr HY.out.1; have ⟨d3, d4, d5⟩ := ptAt hcr HY.out.2.1; have ⟨d6, d7, d8⟩ := ptAt hcr HY.out.2.2; clear hcr)); refine Out.same ?_; go_simp; all_goals with_reducible rfl)
                  refine Sim.sP (i := 5) (d := some 88) (h := ?_)
                  refine Sim.sP (i := 6) (d := some 89) (h := ?_)
                  refine Sim.sP (i := 7) (d := some 90) (h := ?_)
                  refine Sim.sO (i := 8) (d := some 91) (v := ?_) (hy := ?_) (h := ?_)
                  rotate_left
                  · first | refine Or.inl ⟨by rfl, fun w hO => ?_⟩ | (refine Or.inr ⟨by rfl, ?_⟩; with_reducible rfl)
                    first | done | (have hF := hO; (try simp only [Own, Item.Holds, apartI, CellsAt, Nat.reduceAdd, Nat.zero_add, List.mem_cons, List.not_mem_nil, or_false, forall_eq_or_imp, forall_eq, ne_eq, false_imp_iff, implies_true, and_true] at hF); ((have ⟨x0, x1, x2⟩ := HBX.out _ _ hO (by simp); have hcr := SlAt.of_row (hO.holds (.row 29 3 (.slice (some ⟨b6, o6, none⟩) n cc) n (pcC c)) (by simp)); have ⟨d0, d1, d2⟩ := ptAt hcr HY.out.1; have ⟨d3, d4, d5⟩ := ptAt hcr HY.out.2.1; have ⟨d6, d7, d8⟩ := ptAt hcr HY.out.2.2; clear hcr)); refine Out.same ?_; go_simp; all_goals with_reducible rfl)
                  refine Sim.sP (i := 9) (d := some 92) (h := ?_)
                  refine Sim.sP (i := 10) (d := some 93) (h := ?_)
                  refine Sim.sP (i := 11) (d := some 94) (h := ?_)
                  refine Sim.sO (i := 12) (d := some 95) (v := ?_) (hy := ?_) (h := ?_)
                  rotate_left
                  · first | refine Or.inl ⟨by rfl, fun w hO => ?_⟩ | (refine Or.inr ⟨by rfl, ?_⟩; with_reducible rfl)
                    first | done | (have hF := hO; (try simp only [Own, Item.Holds, apartI, CellsAt, Nat.reduceAdd, Nat.zero_add, List.mem_cons, List.not_mem_nil, or_false, forall_eq_or_imp, forall_eq, ne_eq, false_imp_iff, implies_true, and_true] at hF); ((have ⟨x0, x1, x2⟩ := HBX.out _ _ hO (by simp); have hcr := SlAt.of_row (hO.holds (.row 29 3 (.slice (some ⟨b6, o6, none⟩) n cc) n (pcC c)) (by simp)); have ⟨d0, d1, d2⟩ := ptAt hcr HY.out.1; have ⟨d3, d4, d5⟩ := ptAt hcr HY.out.2.1; have ⟨d6, d7, d8⟩ := ptAt hcr HY.out.2.2; clear hcr)); refine Out.same ?_; go_simp; all_goals with_reducible rfl)
                  refine Sim.one' (i := 13) (oi := { dst := some 96, op := Op.buildSlice 23 4 #[(0, Operand.tmp 83), (1, Operand.tmp 87), (2, Operand.tmp 91), (3, Operand.tmp 95)], type := 23, pos := "l13_figured_bass.go:51", after := #[{ on := 0, ground := Ground.data }, { on := 4, ground := Ground.data }, { on := 8, ground := Ground.data }, { on := 12, ground := Ground.data }], guard := none }) (by kernel_rfl) rfl (by rfl) (fun w0 hO hX K hK => ?_)
                  (have hF := hO; (try simp only [Own, Item.Holds, apartI, CellsAt, Nat.reduceAdd, Nat.zero_add, List.mem_cons, List.not_mem_nil, or_false, forall_eq_or_imp, forall_eq, ne_eq, false_imp_iff, implies_true, and_true] at hF))
                  go_simp
                  apply hK _ _ _ (fun _ => True)
                  · exact hO.allocRow (e := 29) (k := 4) (cap := 4) 3 (by omega) (by unfold maxLen; omega) rfl
                  · exact trivial
                  · exact XStab.true
                  · first | exact fun _ _ h => h.2 | exact fun h => absurd h (by decide)
                  clear hO hF
                  clear hK K
                  try simp only [Act.put, List.setIfInBounds_toArray, List.set_cons_zero, List.set_cons_succ]
                  refine Sim.sP (i := 14) (d := some 17) (h := ?_)
                  refine Sim.done (by kernel_rfl) (fun w1 hO hX => ?_) _
                  (try simp only [World.size_alloc1, World.size_drew, Nat.reduceAdd] at hO); (try simp only [upd, updI, List.map_cons, List.map_nil, eq_self, if_true, if_false, reduceIte, Nat.add_eq_left, Nat.left_eq_add, Nat.reduceEqDiff, List.set_cons_zero, List.set_cons_succ] at hO)
                  have hF := hO; (try simp only [Own, Item.Holds, apartI, CellsAt, Nat.reduceAdd, Nat.zero_add, List.mem_cons, List.not_mem_nil, or_false, forall_eq_or_imp, forall_eq, ne_eq, false_imp_iff, implies_true, and_true] at hF)
                  all_goals
                    by_cases hz0 : z = 0
                    · subst hz0
                      cases du
                      · have HN := hid (show lsO es = S1 ++ skK x T c i j (List.range' j (k + 1 - j)) by rw [HUP.out, hes.out]; simp)
                        go_wp2_with (first | (go_at_call 70; apply own_at hO; (repeat (first | (with_reducible exact hO) | (with_reducible apply Own.alloc) | (with_reducible apply Own.drew) | ((with_reducible apply Own.set_at); (focus (show _ ≤ _; omega))))); have hG := hF; clear hF; clear hO; intro hO; refine own_callO hO (fun hW => HSF.out _ _ (SlAt.of_row hW.1.1)) ?_; clear hO; intro w1 hO; (try simp only [World.size_alloc1, World.size_drew, Nat.reduceAdd] at hO); (try simp only [upd, updI, List.map_cons, List.map_nil, eq_self, if_true, if_false, reduceIte, Nat.add_eq_left, Nat.left_eq_add, Nat.reduceEqDiff, List.set_cons_zero, List.set_cons_succ, hG] at hO); clear hG; have hF := hO; (try simp only [Own, Item.Holds, apartI, CellsAt, Nat.reduceAdd, Nat.zero_add, List.mem_cons, List.not_mem_nil, or_false, forall_eq_or_imp, forall_eq, ne_eq, false_imp_iff, implies_true, and_true] at hF)) | (go_at_call 111; apply own_at hO; (repeat (first | (with_reducible exact hO) | (with_reducible apply Own.alloc) | (with_reducible apply Own.drew) | ((with_reducible apply Own.set_at); (focus (show _ ≤ _; omega))))); have hG := hF; clear hF; clear hO; intro hO; refine own_callO hO (fun hW => HFU.out _ _ _ (SlAt.of_row hW.1.1) (SlAt.of_row (hW.holds (.row 29 3 (.slice (some ⟨q, 0, none⟩) r cT) r (pcC T)) (by simp)))) ?_; clear hO; intro w1 hO; (try simp only [World.size_alloc1, World.size_drew, Nat.reduceAdd] at hO); (try simp only [upd, updI, List.map_cons, List.map_nil, eq_self, if_true, if_false, reduceIte, Nat.add_eq_left, Nat.left_eq_add, Nat.reduceEqDiff, List.set_cons_zero, List.set_cons_succ, hG] at hO); clear hG; have hF := hO; (try simp only [Own, Item.Holds, apartI, CellsAt, Nat.reduceAdd, Nat.zero_add, List.mem_cons, List.not_mem_nil, or_false, forall_eq_or_imp, forall_eq, ne_eq, false_imp_iff, implies_true, and_true] at hF)))
                        go_roundw
                        case rel => exact ⟨k + 1, es, by omega, by omega, by go_num, HN.out, Own.drop hO⟩
                        case measure => simp [intOf]; omega
                      · have HN := hid (fun (V : Value) => show lsO (es ++ [(V, [x, y1, y2, y3])]) = S1 ++ skK x T c i j (List.range' j (k + 1 - j)) by rw [HUP.out, ← hes.out]; simp [lsO])
                        go_wp2_with (first | (go_at_call 70; apply own_at hO; (repeat (first | (with_reducible exact hO) | (with_reducible apply Own.alloc) | (with_reducible apply Own.drew) | ((with_reducible apply Own.set_at); (focus (show _ ≤ _; omega))))); have hG := hF; clear hF; clear hO; intro hO; refine own_callO hO (fun hW => HSF.out _ _ (SlAt.of_row hW.1.1)) ?_; clear hO; intro w1 hO; (try simp only [World.size_alloc1, World.size_drew, Nat.reduceAdd] at hO); (try simp only [upd, updI, List.map_cons, List.map_nil, eq_self, if_true, if_false, reduceIte, Nat.add_eq_left, Nat.left_eq_add, Nat.reduceEqDiff, List.set_cons_zero, List.set_cons_succ, hG] at hO); clear hG; have hF := hO; (try simp only [Own, Item.Holds, apartI, CellsAt, Nat.reduceAdd, Nat.zero_add, List.mem_cons, List.not_mem_nil, or_false, forall_eq_or_imp, forall_eq, ne_eq, false_imp_iff, implies_true, and_true] at hF)) | (go_at_call 111; apply own_at hO; (repeat (first | (with_reducible exact hO) | (with_reducible apply Own.alloc) | (with_reducible apply Own.drew) | ((with_reducible apply Own.set_at); (focus (show _ ≤ _; omega))))); have hG := hF; clear hF; clear hO; intro hO; refine own_callO hO (fun hW => HFU.out _ _ _ (SlAt.of_row hW.1.1) (SlAt.of_row (hW.holds (.row 29 3 (.slice (some ⟨q, 0, none⟩) r cT) r (pcC T)) (by simp)))) ?_; clear hO; intro w1 hO; (try simp only [World.size_alloc1, World.size_drew, Nat.reduceAdd] at hO); (try simp only [upd, updI, List.map_cons, List.map_nil, eq_self, if_true, if_false, reduceIte, Nat.add_eq_left, Nat.left_eq_add, Nat.reduceEqDiff, List.set_cons_zero, List.set_cons_succ, hG] at hO); clear hG; have hF := hO; (try simp only [Own, Item.Holds, apartI, CellsAt, Nat.reduceAdd, Nat.zero_add, List.mem_cons, List.not_mem_nil, or_false, forall_eq_or_imp, forall_eq, ne_eq, false_imp_iff, implies_true, and_true] at hF)) | (at_builtin; apply own_list hO; (repeat (first | (with_reducible exact hO) | (with_reducible apply Own.alloc) | (with_reducible apply Own.drew) | ((with_reducible apply Own.set_at); (focus (show _ ≤ _; omega))))); have hG := hF; clear hF; clear hO; intro hO; (try simp only [World.size_alloc1, World.size_drew, Nat.reduceAdd] at hO); (try simp only [upd, updI, List.map_cons, List.map_nil, eq_self, if_true, if_false, reduceIte, Nat.add_eq_left, Nat.left_eq_add, Nat.reduceEqDiff, List.set_cons_zero, List.set_cons_succ, hG] at hO); clear hG; (try simp only [World.size_setCell] at hO); have hF := hO; (try simp only [Own, Item.Holds, apartI, CellsAt, Nat.reduceAdd, Nat.zero_add, List.mem_cons, List.not_mem_nil, or_false, forall_eq_or_imp, forall_eq, ne_eq, false_imp_iff, implies_true, and_true] at hF); replace hO := hO.perm (List.Perm.cons _ (List.Perm.swap _ _ _)); refine wpList_append_item rfl _ _ 49 rfl 23 i1 (.slice none 0 0) 1 24 Tryd.underlying49 hi1 hy0 hy1 hy2 rfl (by decide) rfl rfl hO rfl one1k (by unfold maxLen; omega) (by omega) ?_; clear hO hF; intro v' w2 hO _; have hF := True.intro))
                        go_roundw
                        case rel => exact ⟨k + 1, _, by omega, by omega, by go_num, HN.out _, stk_snoc (s := [x, y1, y2, y3]) hO⟩
                        case measure => simp [intOf]; omega
                    · have hz1' : (z == 0) = false := by simp [hz0]
                      have HN := hid (show lsO es = S1 ++ skK x T c i j (List.range' j (k + 1 - j)) by rw [HUP.out, hes.out]; simp [hz0])
                      go_wp2_with (go_at_call 70; apply own_at hO; (repeat (first | (with_reducible exact hO) | (with_reducible apply Own.alloc) | (with_reducible apply Own.drew) | ((with_reducible apply Own.set_at); (focus (show _ ≤ _; omega))))); have hG := hF; clear hF; clear hO; intro hO; refine own_callO hO (fun hW => HSF.out _ _ (SlAt.of_row hW.1.1)) ?_; clear hO; intro w1 hO; (try simp only [World.size_alloc1, World.size_drew, Nat.reduceAdd] at hO); (try simp only [upd, updI, List.map_cons, List.map_nil, eq_self, if_true, if_false, reduceIte, Nat.add_eq_left, Nat.left_eq_add, Nat.reduceEqDiff, List.set_cons_zero, List.set_cons_succ, hG] at hO); clear hG; have hF := hO; (try simp only [Own, Item.Holds, apartI, CellsAt, Nat.reduceAdd, Nat.zero_add, List.mem_cons, List.not_mem_nil, or_false, forall_eq_or_imp, forall_eq, ne_eq, false_imp_iff, implies_true, and_true] at hF))
                      go_roundw
                      case rel => exact ⟨k + 1, es, by omega, by omega, by go_num, HN.out, Own.drop hO⟩
                      case measure => simp [intOf]; omega
    · have hml : m < 32 := by omega
      have hm1 : (36 : Int) + (m : Int) ≤ 67 := by omega
      have wm : IntKind.i64.wrap (36 + (m : Int) + 1) = 36 + (m : Int) + 1 := IntWalk.i64_in _ (by omega)
      have hm9 : cdN T (m + 1) = cdN T m ++ cdK (36 + (m : Int)) T r := by have := cdN_up T m; rwa [HR.out] at this
      obtain ⟨L0, hL0⟩ : ∃ L, cdN T m = L := ⟨_, rfl⟩
      obtain ⟨a, ha⟩ : ∃ a, 36 + (m : Int) = a := ⟨_, rfl⟩
      rw [hL0] at hO hnl hm9
      rw [ha] at hm9 hm1 wm ⊢
      have ha0 : 36 ≤ a := by omega
      have HM := hid (And.intro hm9 ha)
      have HKL := hid (fun n => cdK_len a T n)
      clear he hm9 hL0 ha
      go_wp2_with fail
      go_loopw [8, 10] (fun u t ws => ∃ k : Nat, k ≤ r ∧ t = .int .i64 k ∧ Own w.heap.size (Below w.heap.size w) ws [.row 29 3 u (L0 ++ cdK a T k).length (pcC (L0 ++ cdK a T k)), .row 29 3 (.slice (some ⟨q, 0, none⟩) r cT) r (pcC T), .blk w.heap.size [.int .i64 x.s, .int .i64 x.a, .int .i64 x.o]]) (fun _ t _ => r - (intOf t).toNat)
      case atStart => exact ⟨0, by omega, rfl, by rw [show cdK a T 0 = [] from rfl, List.append_nil]; exact hO⟩
      case round =>
        clear hO hF
        obtain ⟨k, hk, rfl, hO⟩ := hrel
        have hkl := HKL.out k
        have hF := hO; (try simp only [Own, Item.Holds, apartI, CellsAt, Nat.reduceAdd, Nat.zero_add, List.mem_cons, List.not_mem_nil, or_false, forall_eq_or_imp, forall_eq, ne_eq, false_imp_iff, implies_true, and_true] at hF)
        by_cases he : k = r
        · subst he
          go_wp2_with fail
          go_roundw
          case rel => exact ⟨m + 1, by omega, by have := HM.out.2; go_num, by rw [HM.out.1]; exact hO⟩
          case measure => have := HM.out.2; simp [intOf]; omega
        · have hkr : k < r := by omega
          have hkr2 : (k : Int) < (r : Int) := by omega
          have hk0 : (0 : Int) ≤ (k : Int) := by omega
          obtain ⟨y, hy⟩ : ∃ y, T[k]? = some y := ⟨_, List.getElem?_eq_getElem (by have := HR.out; omega)⟩
          have HUK := hid (cdK_up (a := a) hy)
          have HY := hid hy
          obtain ⟨L1, hL1⟩ : ∃ L, L0 ++ cdK a T k = L := ⟨_, rfl⟩
          have hl1 : L1.length ≤ 36 * 32 + 36 := by rw [← hL1, List.length_append]; omega
          have HL1 := hid hL1
          rw [hL1] at hO
          clear he hy hL1
          go_wp2_with fail
          go_loopw [8, 11] (fun u t ws => ∃ o : Nat, o ≤ 9 ∧ t = .int .i64 o ∧ Own w.heap.size (Below w.heap.size w) ws [.row 29 3 u (L1 ++ cdP a y o).length (pcC (L1 ++ cdP a y o)), .row 29 3 (.slice (some ⟨q, 0, none⟩) r cT) r (pcC T), .blk w.heap.size [.int .i64 x.s, .int .i64 x.a, .int .i64 x.o]]) (fun _ t _ => 9 - (intOf t).toNat)
          case atStart => exact ⟨0, by omega, rfl, by rw [show cdP a y 0 = [] from rfl, List.append_nil]; exact hO⟩
          case round =>
            clear hO hF
            obtain ⟨o, ho, rfl, hO⟩ := hrel
            have hF := hO; (try simp only [Own, Item.Holds, apartI, CellsAt, Nat.reduceAdd, Nat.zero_add, List.mem_cons, List.not_mem_nil, or_false, forall_eq_or_imp, forall_eq, ne_eq, false_imp_iff, implies_true, and_true] at hF)
            by_cases he : o = 9
            · subst he
              have HU9 := hid (show L1 ++ cdP a y 9 = L0 ++ cdK a T (k + 1) by rw [HUK.out, ← HL1.out, List.append_assoc])
              go_wp2_with fail
              go_roundw
              case rel => exact ⟨k + 1, by omega, by go_num, by rw [← HU9.out]; exact hO⟩
              case measure => simp [intOf]; omega
            · have hol : o < 9 := by omega
              have hol2 : (o : Int) ≤ 8 := by omega
              have ho0 : (0 : Int) ≤ (o : Int) := by omega
              have HUP := hid (cdP_up a y o)
              have hpl := cdP_len a y o
              obtain ⟨L2, hL2⟩ : ∃ L, L1 ++ cdP a y o = L := ⟨_, rfl⟩
              have hl2 : L2.length ≤ 36 * 32 + 36 + 9 := by rw [← hL2, List.length_append]; omega
              obtain ⟨z, hz⟩ : ∃ z, kyP ⟨y.s, y.a, (o : Int)⟩ = z := ⟨_, rfl⟩
              have HK := hid (fun W => keyS12 hz W)
              rw [hz] at HUP
              rw [hL2] at hO
              obtain ⟨n2, hn2⟩ : ∃ n, L2.length = n := ⟨_, rfl⟩
              rw [hn2] at hO hl2
              have HL2 := hid (And.intro hL2 hn2)
              clear he hz hL2 hpl hn2
              go_wp2_with fail
              apply own_code hO
              (repeat (first | (with_reducible exact hO) | (with_reducible apply Own.alloc) | (with_reducible apply Own.drew) | ((with_reducible apply Own.set_at); (focus (show _ ≤ _; omega)))))
              have hG := hF; clear hF; clear hO; intro hO
              (try simp only [World.size_alloc1, World.size_drew, Nat.reduceAdd] at hO); (try simp only [upd, updI, List.map_cons, List.map_nil, eq_self, if_true, if_false, reduceIte, Nat.add_eq_left, Nat.left_eq_add, Nat.reduceEqDiff, List.set_cons_zero, List.set_cons_succ, hG] at hO); clear hG
              refine region_own (X := fun _ => True) [13] (by kernel_rfl) (hO) (trivial) (by first | exact XStab.true | exact XStab.rd | exact XStab.rdIf) ?_
              clear hO
              refine Sim.sP (i := 0) (d := some 42) (h := ?_)
              refine Sim.sP (i := 1) (d := some 43) (h := ?_)
              refine Sim.sP (i := 2) (d := some 44) (h := ?_)
              refine Sim.sP (i := 3) (d := some 45) (h := ?_)
              refine Sim.sO (i := 4) (d := some 46) (v := ?_) (hy := ?_) (h := ?_)
              rotate_left
              · first | refine Or.inl ⟨by rfl, fun w hO => ?_⟩ | (refine Or.inr ⟨by rfl, ?_⟩; with_reducible rfl)
                first | done | (have hF := hO; (try simp only [Own, Item.Holds, apartI, CellsAt, Nat.reduceAdd, Nat.zero_add, List.mem_cons, List.not_mem_nil, or_false, forall_eq_or_imp, forall_eq, ne_eq, false_imp_iff, implies_true, and_true] at hF); ((have ⟨d0, d1, d2⟩ := ptAt (SlAt.of_row (hO.holds (.row 29 3 (.slice (some ⟨q, 0, none⟩) r cT) r (pcC T)) (by simp))) HY.out; simp at d0 d1 d2)); refine Out.same ?_; go_simp; all_goals with_reducible rfl)
              refine Sim.sP (i := 5) (d := some 47) (h := ?_)
              refine Sim.sP (i := 6) (d := some 48) (h := ?_)
              refine Sim.sP (i := 7) (d := some 49) (h := ?_)
              refine Sim.sP (i := 8) (d := some 50) (h := ?_)
              refine Sim.sO (i := 9) (d := some 51) (v := ?_) (hy := ?_) (h := ?_)
              rotate_left
              · first | refine Or.inl ⟨by rfl, fun w hO => ?_⟩ | (refine Or.inr ⟨by rfl, ?_⟩; with_reducible rfl)
                first | done | (have hF := hO; (try simp only [Own, Item.Holds, apartI, CellsAt, Nat.reduceAdd, Nat.zero_add, List.mem_cons, List.not_mem_nil, or_false, forall_eq_or_imp, forall_eq, ne_eq, false_imp_iff, implies_true, and_true] at hF); ((have ⟨d0, d1, d2⟩ := ptAt (SlAt.of_row (hO.holds (.row 29 3 (.slice (some ⟨q, 0, none⟩) r cT) r (pcC T)) (by simp))) HY.out; simp at d0 d1 d2)); refine Out.same ?_; go_simp; all_goals with_reducible rfl)
              refine Sim.sP (i := 10) (d := some 52) (h := ?_)
              refine Sim.sP (i := 11) (d := some 53) (h := ?_)
              refine Sim.one' (i := 12) (oi := { dst := some 12, op := Op.alloc 29, type := 0, pos := "l13_figured_bass.go:40", after := #[], guard := none }) (by kernel_rfl) rfl (by rfl) (fun w0 hO hX K hK => ?_)
              have hF := hO; (try simp only [Own, Item.Holds, apartI, CellsAt, Nat.reduceAdd, Nat.zero_add, List.mem_cons, List.not_mem_nil, or_false, forall_eq_or_imp, forall_eq, ne_eq, false_imp_iff, implies_true, and_true] at hF)
              go_simp
              apply hK _ _ _ (fun _ => True)
              (repeat (first | (with_reducible exact hO) | (with_reducible apply Own.alloc) | (with_reducible apply Own.drew) | ((with_reducible apply Own.set_at); (focus (show _ ≤ _; omega)))))
              · first | exact trivial | exact hX | exact hX.below (below1 _) | exact RdIf.gone | exact hX.keep ((Below.refl _ _).setCell (by first | omega | (dsimp only; omega)) _)
              · exact (by first | exact XStab.true | exact XStab.rd | exact XStab.rdIf)
              · first | exact fun _ _ h => h.2 | exact fun _ _ h => h | exact fun h => absurd h (by decide)
              try simp only [upd, updI, List.map_cons, List.map_nil, eq_self, if_true, if_false, reduceIte, Nat.add_eq_left, Nat.left_eq_add, Nat.reduceEqDiff, List.set_cons_zero, List.set_cons_succ, hF]
              clear hK K hF hO
              try simp only [Act.put, List.setIfInBounds_toArray, List.set_cons_zero, List.set_cons_succ]
              refine Sim.one' (i := 13) (oi := { dst := none, op := Op.store 29 (Operand.tmp 12) (Operand.tmp 53), type := 0, pos := "l13_figured_bass.go:40", after := #[{ on := 12, ground := Ground.data }, { on := 11, ground := Ground.data }, { on := 0, ground := Ground.phase }, { on := 1, ground := Ground.phase }, { on := 2, ground := Ground.phase }, { on := 3, ground := Ground.phase }, { on := 4, ground := Ground.phase }, { on := 5, ground := Ground.phase }, { on := 6, ground := Ground.phase }, { on := 7, ground := Ground.phase }, { on := 8, ground := Ground.phase }, { on := 9, ground := Ground.phase }, { on := 10, ground := Ground.phase }, { on := 11, ground := Ground.phase }, { on := 12, ground := Ground.phase }], guard := none }) (by kernel_rfl) rfl (by rfl) (fun w0 hO hX K hK => ?_)
              have hF := hO; (try simp only [Own, Item.Holds, apartI, CellsAt, Nat.reduceAdd, Nat.zero_add, List.mem_cons, List.not_mem_nil, or_false, forall_eq_or_imp, forall_eq, ne_eq, false_imp_iff, implies_true, and_true] at hF); ((have ⟨d0, d1, d2⟩ := ptAt (SlAt.of_row (hO.holds (.row 29 3 (.slice (some ⟨q, 0, none⟩) r cT) r (pcC T)) (by simp))) HY.out; simp at d0 d1 d2))
              go_simp
              apply hK _ _ _ (fun _ => True)
              (repeat (first | (with_reducible exact hO) | (with_reducible apply Own.alloc) | (with_reducible apply Own.drew) | ((with_reducible apply Own.set_at); (focus (show _ ≤ _; omega)))))
              · first | exact trivial | exact hX | exact hX.below (below1 _) | exact RdIf.gone | exact hX.keep ((Below.refl _ _).setCell (by first | omega | (dsimp only; omega)) _)
              · exact (by first | exact XStab.true | exact XStab.rd | exact XStab.rdIf)
              · first | exact fun _ _ h => h.2 | exact fun _ _ h => h | exact fun h => absurd h (by decide)
              try simp only [upd, updI, List.map_cons, List.map_nil, eq_self, if_true, if_false, reduceIte, Nat.add_eq_left, Nat.left_eq_add, Nat.reduceEqDiff, List.set_cons_zero, List.set_cons_succ, hF]
              clear hK K hF hO
              try simp only [Act.put, List.setIfInBounds_toArray, List.set_cons_zero, List.set_cons_succ]
              refine Sim.done (by kernel_rfl) (fun w1 hO hX => ?_) _
              (try simp only [World.size_alloc1, World.size_drew, Nat.reduceAdd] at hO); (try simp only [upd, updI, List.map_cons, List.map_nil, eq_self, if_true, if_false, reduceIte, Nat.add_eq_left, Nat.left_eq_add, Nat.reduceEqDiff, List.set_cons_zero, List.set_cons_succ] at hO)
              have hF := hO; (try simp only [Own, Item.Holds, apartI, CellsAt, Nat.reduceAdd, Nat.zero_add, List.mem_cons, List.not_mem_nil, or_false, forall_eq_or_imp, forall_eq, ne_eq, false_imp_iff, implies_true, and_true] at hF)
              all_goals
                by_cases hc : z = a
                · have HN := hid (show L2 ++ [⟨y.s, y.a, (o : Int)⟩] = L1 ++ cdP a y (o + 1) ∧ n2 + 1 = (L1 ++ cdP a y (o + 1)).length by
                    rw [HUP.out, if_pos hc, ← List.append_assoc, HL2.out.1, List.length_append, HL2.out.2]
                    exact ⟨rfl, rfl⟩)
                  subst hc
                  go_wp2_with (first | (go_at_call 96; apply own_at hO; (repeat (first | (with_reducible exact hO) | (with_reducible apply Own.alloc) | (with_reducible apply Own.drew) | ((with_reducible apply Own.set_at); (focus (show _ ≤ _; omega))))); have hG := hF; clear hF; clear hO; intro hO; refine own_call hO (fun hB => HK.out _) ?_; clear hO; intro w1 hO; (try simp only [World.size_alloc1, World.size_drew, Nat.reduceAdd] at hO); (try simp only [upd, updI, List.map_cons, List.map_nil, eq_self, if_true, if_false, reduceIte, Nat.add_eq_left, Nat.left_eq_add, Nat.reduceEqDiff, List.set_cons_zero, List.set_cons_succ, hG] at hO); clear hG; have hF := hO; (try simp only [Own, Item.Holds, apartI, CellsAt, Nat.reduceAdd, Nat.zero_add, List.mem_cons, List.not_mem_nil, or_false, forall_eq_or_imp, forall_eq, ne_eq, false_imp_iff, implies_true, and_true] at hF)) | (at_builtin; apply own_list hO; (repeat (first | (with_reducible exact hO) | (with_reducible apply Own.alloc) | (with_reducible apply Own.drew) | ((with_reducible apply Own.set_at); (focus (show _ ≤ _; omega))))); have hG := hF; clear hF; clear hO; intro hO; (try simp only [World.size_alloc1, World.size_drew, Nat.reduceAdd] at hO); (try simp only [upd, updI, List.map_cons, List.map_nil, eq_self, if_true, if_false, reduceIte, Nat.add_eq_left, Nat.left_eq_add, Nat.reduceEqDiff, List.set_cons_zero, List.set_cons_succ, hG] at hO); clear hG; (try simp only [World.size_setCell] at hO); have hF := hO; (try simp only [Own, Item.Holds, apartI, CellsAt, Nat.reduceAdd, Nat.zero_add, List.mem_cons, List.not_mem_nil, or_false, forall_eq_or_imp, forall_eq, ne_eq, false_imp_iff, implies_true, and_true] at hF); replace hO := Own.sub (.cons_cons _ (.cons _ (List.Sublist.refl _))) hO; refine wpList_append_item rfl _ _ 23 rfl 29 i0 (.agg #[.int .i64 0, .int .i64 0, .int .i64 0]) 3 24 Tryd.underlying23 hi0 hz0 hz1 hz2 rfl (by decide) rfl rfl hO rfl one3t (by unfold maxLen; omega) (by omega) ?_; clear hO hF; intro v' w2 hO _; have hF := True.intro))
                  go_roundw
                  case rel => exact ⟨o + 1, by omega, by go_num, by rw [← HN.out.2, ← HN.out.1, ← pcC_up]; exact hO⟩
                  case measure => simp [intOf]; omega
                · have hc2 : (z == a) = false := by simp [hc]
                  have HN := hid (show L2 = L1 ++ cdP a y (o + 1) ∧ n2 = (L1 ++ cdP a y (o + 1)).length by
                    rw [HUP.out, if_neg hc, List.append_nil, HL2.out.1]
                    exact ⟨rfl, HL2.out.2.symm⟩)
                  go_wp2_with (go_at_call 96; apply own_at hO; (repeat (first | (with_reducible exact hO) | (with_reducible apply Own.alloc) | (with_reducible apply Own.drew) | ((with_reducible apply Own.set_at); (focus (show _ ≤ _; omega))))); have hG := hF; clear hF; clear hO; intro hO; refine own_call hO (fun hB => HK.out _) ?_; clear hO; intro w1 hO; (try simp only [World.size_alloc1, World.size_drew, Nat.reduceAdd] at hO); (try simp only [upd, updI, List.map_cons, List.map_nil, eq_self, if_true, if_false, reduceIte, Nat.add_eq_left, Nat.left_eq_add, Nat.reduceEqDiff, List.set_cons_zero, List.set_cons_succ, hG] at hO); clear hG; have hF := hO; (try simp only [Own, Item.Holds, apartI, CellsAt, Nat.reduceAdd, Nat.zero_add, List.mem_cons, List.not_mem_nil, or_false, forall_eq_or_imp, forall_eq, ne_eq, false_imp_iff, implies_true, and_true] at hF))
                  go_roundw
                  case rel => exact ⟨o + 1, by omega, by go_num, by rw [← HN.out.2, ← HN.out.1]; exact Own.drop hO⟩
                  case measure => simp [intOf]; omega
theorem skS_any (f : Int) (x : Pt) (g : Int) (w : World) :
    Calls Tryd.prog 85 #[.int .i64 f, .agg #[.int .i64 x.s, .int .i64 x.a, .int .i64 x.o], .int .i64 g] w (StkOut (skL f x g) w) := by
  by_cases h : ftL f x g = []
  · exact skS_nil f x g w h
  · exact skS_in f x g w h

/- Lists of chords in memory, several of them, and rows of truth values beside them: what a search through lists of chords has made. -/
open Go.RowKit

/-- The rows of lists of chords: a value, its chords. -/
def itA (As : List (Value × List (Value × List Pt))) : List Item := As.flatMap fun p => .row 23 1 p.1 p.2.length (vsO p.2) :: rwP p.2
theorem itA_append (a b : List (Value × List (Value × List Pt))) : itA (a ++ b) = itA a ++ itA b := by simp [itA]
theorem itA_snoc (a : List (Value × List (Value × List Pt))) (v : Value) (es : List (Value × List Pt)) : itA (a ++ [(v, es)]) = itA a ++ (.row 23 1 v es.length (vsO es) :: rwP es) := by simp [itA]
theorem itA_row {As : List (Value × List (Value × List Pt))} {k : Nat} {p : Value × List (Value × List Pt)} (h : As[k]? = some p) : Item.row 23 1 p.1 p.2.length (vsO p.2) ∈ itA As :=
  List.mem_flatMap.2 ⟨p, List.mem_of_getElem? h, List.mem_cons_self⟩
theorem itA_chord {As : List (Value × List (Value × List Pt))} {k i : Nat} {p : Value × List (Value × List Pt)} {c : Value × List Pt} (h : As[k]? = some p) (hc : p.2[i]? = some c) : Item.row 29 3 c.1 c.2.length (pcC c.2) ∈ itA As :=
  List.mem_flatMap.2 ⟨p, List.mem_of_getElem? h, List.mem_cons_of_mem _ (List.mem_map_of_mem (List.mem_of_getElem? hc))⟩
/-- List k, read. -/
theorem itA_stk {n : Nat} {B : World → Prop} {w : World} {L : List Item} {As : List (Value × List (Value × List Pt))} {k : Nat} {p : Value × List (Value × List Pt)} (hO : Own n B w L) (hs : ∀ x ∈ itA As, x ∈ L) (h : As[k]? = some p) : StkR w p.1 (lsO p.2) := by
  refine ⟨vsO p.2, by simp, ?_, fun i l ev hl hev => ?_⟩
  · have := SlAt.of_row (hO.holds _ (hs _ (itA_row h)))
    rwa [List.length_map]
  · rw [List.getElem?_map] at hl hev
    obtain ⟨c, hc, rfl⟩ := Option.map_eq_some_iff.1 hl
    rw [hc] at hev
    cases hev
    exact SlAt.of_row (hO.holds _ (hs _ (itA_chord h hc)))
/-- The rows of truth values. -/
def itG (Gs : List (Value × List Bool)) : List Item := Gs.map fun p => .row 4 1 p.1 p.2.length (p.2.map Value.bool)
theorem itG_append (a b : List (Value × List Bool)) : itG (a ++ b) = itG a ++ itG b := by simp [itG]
theorem itG_row {Gs : List (Value × List Bool)} {k : Nat} {p : Value × List Bool} (h : Gs[k]? = some p) : Item.row 4 1 p.1 p.2.length (p.2.map Value.bool) ∈ itG Gs := List.mem_map_of_mem (List.mem_of_getElem? h)
theorem split_G {α : Type} {l : List α} {k : Nat} {p : α} (h : l[k]? = some p) : ∃ U V, l = U ++ p :: V ∧ U.length = k := by
  have hk := (List.getElem?_eq_some_iff.1 h).1
  refine ⟨l.take k, l.drop (k + 1), ?_, by rw [List.length_take]; omega⟩
  rw [List.getElem?_eq_getElem hk] at h
  cases h
  rw [← List.drop_eq_getElem_cons hk, List.take_append_drop]
/-- One row of truth values comes to the head. -/
theorem itG_head {n : Nat} {B : World → Prop} {w : World} {x y : Item} {U V : List (Value × List Bool)} {p : Value × List Bool} {M : List Item} (h : Own n B w (x :: y :: (itG (U ++ p :: V) ++ M))) : Own n B w (.row 4 1 p.1 p.2.length (p.2.map Value.bool) :: x :: y :: (itG (U ++ V) ++ M)) := by
  have e : itG (U ++ p :: V) ++ M = itG U ++ (.row 4 1 p.1 p.2.length (p.2.map Value.bool) :: (itG V ++ M)) := by rw [itG_append]; simp [itG]
  have e2 : itG (U ++ V) ++ M = itG U ++ (itG V ++ M) := by rw [itG_append, List.append_assoc]
  rw [e] at h
  rw [e2]
  refine h.perm ?_
  exact ((List.Perm.cons x (List.Perm.cons y List.perm_middle)).trans (List.Perm.cons x (List.Perm.swap _ y _))).trans (List.Perm.swap _ x _)
/-- It goes back. -/
theorem itG_back {n : Nat} {B : World → Prop} {w : World} {x y : Item} {U V : List (Value × List Bool)} {p : Value × List Bool} {M : List Item} (h : Own n B w (.row 4 1 p.1 p.2.length (p.2.map Value.bool) :: x :: y :: (itG (U ++ V) ++ M))) : Own n B w (x :: y :: (itG (U ++ p :: V) ++ M)) := by
  have e : itG (U ++ p :: V) ++ M = itG U ++ (.row 4 1 p.1 p.2.length (p.2.map Value.bool) :: (itG V ++ M)) := by rw [itG_append]; simp [itG]
  have e2 : itG (U ++ V) ++ M = itG U ++ (itG V ++ M) := by rw [itG_append, List.append_assoc]
  rw [e2] at h
  rw [e]
  refine h.perm ?_
  exact (((List.Perm.cons x (List.Perm.cons y List.perm_middle)).trans (List.Perm.cons x (List.Perm.swap _ y _))).trans (List.Perm.swap _ x _)).symm
theorem set_split {α : Type} {U V : List α} {p q : α} {k : Nat} (h : U.length = k) : (U ++ p :: V).set k q = U ++ q :: V := by subst h; simp [List.set_append]
theorem bool_set (bs : List Bool) (i : Nat) (b : Bool) : (bs.map Value.bool).set i (.bool b) = (bs.set i b).map Value.bool := by rw [List.map_set]
/-- The chords of a way: one of each list. -/
def pickA (As : List (Value × List (Value × List Pt))) (is : List Nat) : List (Value × List Pt) := List.zipWith (fun p i => p.2.getD i (.slice none 0 0, [])) As is

/- Chapter 13 in the model: RealizeBass of arguments for which there is no answer. -/
open Go.RowKit

theorem stkB_nil {w w' : World} {v : Value} {b : Bool} {L : List Item} (h : Own w.heap.size (Below w.heap.size w) w' (.row 23 1 v 0 [] :: L)) : StkOutB [] b w (.returned (.tuple #[v, .bool b])) w' :=
  ⟨v, [], rfl, rfl, ⟨⟨h.1.1, fun x hx => by cases hx⟩, ⟨h.stab, h.base⟩⟩⟩

set_option maxRecDepth 8000 in
set_option maxHeartbeats 4000000 in
theorem rzS_out (f : Int) (vb vg : Value) (bs : List Pt) (gs : List Int) (w : World) (hb : SlAt w vb bs.length 3 (pcC bs)) (hg : SlAt w vg gs.length 1 (intC gs)) (hc : ¬ rzC f bs gs) :
    Calls Tryd.prog 42 #[.int .i64 f, vb, vg] w (StkOutB [] false w) := by
  have hO := Own.start w
  have hF := True.intro
  obtain ⟨Ab, cb, rfl, nb, _⟩ := hb.open
  obtain ⟨Ag, cg, rfl, ng, _⟩ := hg.open
  clear hb hg
  unfold rzC at hc
  obtain ⟨n, hn⟩ : ∃ n, bs.length = n := ⟨_, rfl⟩
  obtain ⟨m, hm⟩ : ∃ n, gs.length = n := ⟨_, rfl⟩
  rw [hn, hm] at hc
  rw [hn] at nb ⊢
  rw [hm] at ng ⊢
  clear hn hm
  obtain ⟨b1, hb1⟩ : ∃ b, inB (n : Int) 1 8 = b := ⟨_, rfl⟩
  obtain ⟨b2, hb2⟩ : ∃ b, inB f (-7) 7 = b := ⟨_, rfl⟩
  have HI1 := hid (fun W => in_is W hb1)
  have HI2 := hid (fun W => in_is W hb2)
  cases b1
  · clear hc hb1 hb2
    go_enter Tryd.func42, Tryd.ntmps42
    go_wp2_with fail
    replace hO := hO.allocRow (e := 23) (cur := #[]) (k := 0) (cap := 0) 1 (by omega) (by unfold maxLen; omega) rfl
    go_wp2_with (go_at_call 48; apply own_at hO; (repeat (first | (with_reducible exact hO) | (with_reducible apply Own.alloc) | (with_reducible apply Own.drew) | ((with_reducible apply Own.set_at); (focus (show _ ≤ _; omega))))); have hG := hF; clear hF; clear hO; intro hO; refine own_call hO (fun hB => HI1.out _) ?_; clear hO; intro w1 hO; (try simp only [World.size_alloc1, World.size_drew, Nat.reduceAdd] at hO); (try simp only [upd, updI, List.map_cons, List.map_nil, eq_self, if_true, if_false, reduceIte, Nat.add_eq_left, Nat.left_eq_add, Nat.reduceEqDiff, List.set_cons_zero, List.set_cons_succ, hG] at hO); clear hG; have hF := hO; (try simp only [Own, Item.Holds, apartI, CellsAt, Nat.reduceAdd, Nat.zero_add, List.mem_cons, List.not_mem_nil, or_false, forall_eq_or_imp, forall_eq, ne_eq, false_imp_iff, implies_true, and_true] at hF))
    go_ret2
    exact stkB_nil hO
  · have h18 := inB_iff.1 hb1
    by_cases hmn : m = n
    · subst hmn
      have hk : b2 = false := by
        rw [← Bool.not_eq_true]
        rintro rfl
        exact hc ⟨by omega, by omega, rfl, hb2⟩
      subst hk
      clear hc hb1 hb2
      go_enter Tryd.func42, Tryd.ntmps42
      go_wp2_with fail
      replace hO := hO.allocRow (e := 23) (cur := #[]) (k := 0) (cap := 0) 1 (by omega) (by unfold maxLen; omega) rfl
      go_wp2_with fail
      (go_at_call 48; apply own_at hO; (repeat (first | (with_reducible exact hO) | (with_reducible apply Own.alloc) | (with_reducible apply Own.drew) | ((with_reducible apply Own.set_at); (focus (show _ ≤ _; omega))))); have hG := hF; clear hF; clear hO; intro hO; refine own_call hO (fun hB => HI1.out _) ?_; clear hO; intro w1 hO; (try simp only [World.size_alloc1, World.size_drew, Nat.reduceAdd] at hO); (try simp only [upd, updI, List.map_cons, List.map_nil, eq_self, if_true, if_false, reduceIte, Nat.add_eq_left, Nat.left_eq_add, Nat.reduceEqDiff, List.set_cons_zero, List.set_cons_succ, hG] at hO); clear hG; have hF := hO; (try simp only [Own, Item.Holds, apartI, CellsAt, Nat.reduceAdd, Nat.zero_add, List.mem_cons, List.not_mem_nil, or_false, forall_eq_or_imp, forall_eq, ne_eq, false_imp_iff, implies_true, and_true] at hF))
      go_wp2_with fail
      (go_at_call 48; apply own_at hO; (repeat (first | (with_reducible exact hO) | (with_reducible apply Own.alloc) | (with_reducible apply Own.drew) | ((with_reducible apply Own.set_at); (focus (show _ ≤ _; omega))))); have hG := hF; clear hF; clear hO; intro hO; refine own_call hO (fun hB => HI2.out _) ?_; clear hO; intro w1 hO; (try simp only [World.size_alloc1, World.size_drew, Nat.reduceAdd] at hO); (try simp only [upd, updI, List.map_cons, List.map_nil, eq_self, if_true, if_false, reduceIte, Nat.add_eq_left, Nat.left_eq_add, Nat.reduceEqDiff, List.set_cons_zero, List.set_cons_succ, hG] at hO); clear hG; have hF := hO; (try simp only [Own, Item.Holds, apartI, CellsAt, Nat.reduceAdd, Nat.zero_add, List.mem_cons, List.not_mem_nil, or_false, forall_eq_or_imp, forall_eq, ne_eq, false_imp_iff, implies_true, and_true] at hF))
      go_wp2_with fail
      go_ret2
      exact stkB_nil hO
    · have g1 : ((m : Int) == (n : Int)) = false := by simp; omega
      have g2 : ((m : Int) != (n : Int)) = true := by simp; omega
      have g3 : ¬ (m : Int) = (n : Int) := by omega
      clear hc hb1 hb2
      go_enter Tryd.func42, Tryd.ntmps42
      go_wp2_with fail
      replace hO := hO.allocRow (e := 23) (cur := #[]) (k := 0) (cap := 0) 1 (by omega) (by unfold maxLen; omega) rfl
      go_wp2_with (go_at_call 48; apply own_at hO; (repeat (first | (with_reducible exact hO) | (with_reducible apply Own.alloc) | (with_reducible apply Own.drew) | ((with_reducible apply Own.set_at); (focus (show _ ≤ _; omega))))); have hG := hF; clear hF; clear hO; intro hO; refine own_call hO (fun hB => HI1.out _) ?_; clear hO; intro w1 hO; (try simp only [World.size_alloc1, World.size_drew, Nat.reduceAdd] at hO); (try simp only [upd, updI, List.map_cons, List.map_nil, eq_self, if_true, if_false, reduceIte, Nat.add_eq_left, Nat.left_eq_add, Nat.reduceEqDiff, List.set_cons_zero, List.set_cons_succ, hG] at hO); clear hG; have hF := hO; (try simp only [Own, Item.Holds, apartI, CellsAt, Nat.reduceAdd, Nat.zero_add, List.mem_cons, List.not_mem_nil, or_false, forall_eq_or_imp, forall_eq, ne_eq, false_imp_iff, implies_true, and_true] at hF))
      go_ret2
      exact stkB_nil hO
end Go.Proofs.YtfdglkiehkilnaaDoor
