/- The laws' own functions over sections: a section, a slice of sections is copied; equal ones are found equal. -/
import Derived.Test.YtpfefbpmchigeaaWalksSec
import Derived.Test.YtpfefbpmchigeaaWalksIS
namespace Go.Proofs.Ytpfefbpmchigeaa
set_option linter.unusedSimpArgs false
set_option linter.unusedVariables false
open Go.RowKit

set_option maxHeartbeats 4000000 in
theorem toSec_at (s : Sec) (ev : Value) (w : World) (h : IntsAt w ev s.e) (hn : s.e.length ≤ 1048576) :
    Calls Try.prog 10 #[.agg #[.int .i64 s.b, .int .i64 s.t, ev]] w (SecOut s w) := by
  have hO := Own.start w
  have hF := True.intro
  have HT := hid (fun W (hW : Below w.heap.size w W) => toI_at ev s.e W (h.below hW) hn)
  obtain ⟨A, c, rfl, _⟩ := h.open'
  obtain ⟨n, hnl⟩ : ∃ n, s.e.length = n := ⟨_, rfl⟩
  unfold SecOut
  rw [hnl] at HT
  rw [hnl]
  clear h hnl hn
  go_enter Try.func10, Try.ntmps10
  go_wp2_with ((go_at_call 35; apply own_at hO; (repeat (first | (with_reducible exact hO) | (with_reducible apply Own.alloc) | (with_reducible apply Own.drew) | ((with_reducible apply Own.set_at); (focus (show _ ≤ _; omega))))); have hG := hF; clear hF; clear hO; intro hO; refine own_call_row hO (fun hB => HT.out _ hB) ?_; clear hO; intro v w1 hO; (try simp only [World.size_alloc1, World.size_drew, Nat.reduceAdd] at hO); (try simp only [upd, updI, List.map_cons, List.map_nil, eq_self, if_true, if_false, reduceIte, Nat.add_eq_left, Nat.left_eq_add, Nat.reduceEqDiff, List.set_cons_zero, List.set_cons_succ, hG] at hO); clear hG; have hF := hO; (try simp only [Own, Item.Holds, apartI, CellsAt, Nat.reduceAdd, Nat.zero_add, List.mem_cons, List.not_mem_nil, or_false, forall_eq_or_imp, forall_eq, ne_eq, false_imp_iff, implies_true, and_true] at hF)); obtain ⟨A1, c1, hv1⟩ := (SlAt.of_row hO.1.1).form; subst hv1)
  apply own_end hO
  (repeat (first | (with_reducible exact hO) | (with_reducible apply Own.alloc) | (with_reducible apply Own.drew) | ((with_reducible apply Own.set_at); (focus (show _ ≤ _; omega)))))
  have hG := hF; clear hF; clear hO; intro hO
  refine own_ret (v := .agg #[.int .i64 s.b, .int .i64 s.t, .slice A1 n c1]) hO ?_ rfl (fun hO => by (try simp only [World.size_alloc1, World.size_drew, Nat.reduceAdd] at hO); (try simp only [upd, updI, List.map_cons, List.map_nil, eq_self, if_true, if_false, reduceIte, Nat.add_eq_left, Nat.left_eq_add, Nat.reduceEqDiff, List.set_cons_zero, List.set_cons_succ, hG] at hO); clear hG; exact ⟨A1, c1, rfl, hO.1.1, hO.base⟩)
  clear hO; intro w1 hO
  (try simp only [World.size_alloc1, World.size_drew, Nat.reduceAdd] at hO); (try simp only [upd, updI, List.map_cons, List.map_nil, eq_self, if_true, if_false, reduceIte, Nat.add_eq_left, Nat.left_eq_add, Nat.reduceEqDiff, List.set_cons_zero, List.set_cons_succ, hG] at hO); clear hG
  have hF := hO; (try simp only [Own, Item.Holds, apartI, CellsAt, Nat.reduceAdd, Nat.zero_add, List.mem_cons, List.not_mem_nil, or_false, forall_eq_or_imp, forall_eq, ne_eq, false_imp_iff, implies_true, and_true] at hF)
  simp [results, Try.results10, go_sem, hF]

def sec0 : Sec := ⟨0, 0, []⟩
theorem infoS7 : (Try.prog.info? 27).map (fun i => (i.zero, i.size, i.bytes)) = some (some (.agg #[.int .i64 0, .int .i64 0, .slice none 0 0]), 3, 40) := by kernel_rfl
theorem madeS (n : Nat) : (madeCells (Value.agg #[.int .i64 0, .int .i64 0, .slice none 0 0]).cells (n * 3)).toList = scC (List.replicate n sec0) (List.replicate n (.slice none 0 0)) := by
  have hz : (Value.agg #[.int .i64 0, .int .i64 0, .slice none 0 0]).cells = #[.int .i64 0, .int .i64 0, .slice none 0 0] := by kernel_rfl
  rw [hz]
  have := made_rep #[Value.int .i64 0, .int .i64 0, .slice none 0 0] (by decide) n
  rw [show (#[Value.int .i64 0, .int .i64 0, .slice none 0 0] : Array Value).size = 3 from rfl] at this
  rw [this]
  clear this hz
  induction n with
  | zero => rfl
  | succ n ih => rw [List.replicate_succ, List.flatten_cons, ih, List.replicate_succ, List.replicate_succ]; rfl
/-- The first j of them are laid, the others zero. -/
def mixS (l : List Sec) (j : Nat) : List Sec := l.take j ++ List.replicate (l.length - j) sec0
def mixV (es : List (Value × List Value)) (n : Nat) : List Value := es.map (·.1) ++ List.replicate (n - es.length) (.slice none 0 0)
theorem mix_put {l : List Sec} {es : List (Value × List Value)} {j : Nat} {s : Sec} {ev : Value} (hs : l[j]? = some s) (he : es.length = j) :
    (((scC (mixS l j) (mixV es l.length)).set (j * 3) (.int .i64 s.b)).set (j * 3 + 1) (.int .i64 s.t)).set (j * 3 + 2) ev = scC (mixS l (j + 1)) (mixV (es ++ [(ev, inC s.e)]) l.length) := by
  have hl := (List.getElem?_eq_some_iff.1 hs).1
  unfold mixS mixV
  rw [get_up hs, show l.length - j = (l.length - (j + 1)) + 1 by omega, List.replicate_succ, show l.length - es.length = (l.length - (j + 1)) + 1 by omega, List.replicate_succ, scC_put (by rw [List.length_take]; omega) (by rw [List.length_map]; exact he)]
  rw [show l.length - (es ++ [(ev, inC s.e)]).length = l.length - (j + 1) by rw [List.length_append, he]; rfl]
  simp
theorem mix_len {l : List Sec} {es : List (Value × List Value)} {j : Nat} (hj : j ≤ l.length) (he : es.length = j) : (mixV es l.length).length = (mixS l j).length ∧ (mixS l j).length = l.length := by
  unfold mixS mixV
  simp
  omega
theorem EsOf.up {l : List Sec} {es : List (Value × List Value)} {j : Nat} {s : Sec} (h : EsOf (l.take j) es) (hs : l[j]? = some s) (ev : Value) : EsOf (l.take (j + 1)) (es ++ [(ev, inC s.e)]) := by
  rw [get_up hs]
  exact h.snoc s ev

set_option maxHeartbeats 4000000 in
theorem toSecs_at (va : Value) (l : List Sec) (w : World) (h : SecsAt w va l) (hn : l.length ≤ 1048576) (hle : ∀ s ∈ l, s.e.length ≤ 1048576) :
    Calls Try.prog 15 #[va] w (SecsOut l w) := by
  have hO := Own.start w
  have hF := True.intro
  obtain ⟨i0, hi, hz0, hz1, hz2⟩ := info_parts infoS7
  obtain ⟨A, c, rfl, hA⟩ := h.open
  obtain ⟨n, hnl⟩ : ∃ n, l.length = n := ⟨_, rfl⟩
  have HN := hid hnl
  have HLE := hid hle
  rw [hnl] at hn hA
  rw [hnl]
  clear hnl h hle
  go_enter Try.func15, Try.ntmps15
  go_wp2_with (at_make; go_loud (refine wpList_make_item rfl _ _ 34 rfl 27 i0 (.agg #[.int .i64 0, .int .i64 0, .slice none 0 0]) 3 40 Try.underlying34 hi hz0 hz1 hz2 _ _ _ _ n rfl rfl rfl rfl (by omega) (by unfold maxLen; omega) (by (repeat (first | (with_reducible exact hO) | (with_reducible apply Own.alloc) | (with_reducible apply Own.drew) | ((with_reducible apply Own.set_at); (focus (show _ ≤ _; omega)))))) ?_); clear hO hF; intro q w2 hO; have hF := hO; (try simp only [Own, Item.Holds, apartI, CellsAt, Nat.reduceAdd, Nat.zero_add, List.mem_cons, List.not_mem_nil, or_false, forall_eq_or_imp, forall_eq, ne_eq, false_imp_iff, implies_true, and_true] at hF))
  rw [madeS n, show List.replicate n sec0 = mixS l 0 by simp [mixS, HN.out], show List.replicate n (Value.slice none 0 0) = mixV [] n by simp [mixV]] at hO
  clear hF
  go_loopw [4] (fun t wr => ∃ (j : Nat) (es : List (Value × List Value)), j ≤ n ∧ t = .int .i64 j ∧ Hid (EsOf (l.take j) es) ∧ Own w.heap.size (Below w.heap.size w) wr (.row 27 3 (.slice (some ⟨q, 0, none⟩) n n) n (scC (mixS l j) (mixV es n)) :: rwI es)) (fun t _ => n - (intOf t).toNat)
  case atStart => exact ⟨0, [], by omega, rfl, EsOf.nil, hO⟩
  case round =>
    clear hO
    obtain ⟨j, es, hj, rfl, hE, hO⟩ := hrel
    have hF := True.intro
    have hel : es.length = j := by rw [hE.out.1, List.length_take]; have := HN.out; omega
    by_cases he : j = n
    · subst he
      have HE := hid (show mixS l j = l ∧ mixV es j = es.map (·.1) ∧ l.take j = l by
        refine ⟨by simp [mixS, HN.out, List.take_of_length_le (Nat.le_of_eq HN.out)], by simp [mixV, hel], List.take_of_length_le (Nat.le_of_eq HN.out)⟩)
      rw [HE.out.1, HE.out.2.1] at hO
      rw [HE.out.2.2] at hE
      go_wp2_with fail
      go_ret
      exact ⟨_, es, rfl, hE.out, by rw [HN.out]; exact hO⟩
    · have hlt : j < n := by omega
      have hlt2 : (j : Int) < n := by omega
      obtain ⟨b, off, rfl, hc1, hc2, hb, hcell⟩ := hA (by omega)
      obtain ⟨s, hs⟩ : ∃ s, l[j]? = some s := ⟨_, List.getElem?_eq_getElem (by have := HN.out; omega)⟩
      obtain ⟨ev, hev, d0, d1, d2⟩ := hcell j s hs
      have g0 := ((bcell hO.base).1 b (off + j * 3) hb).trans d0
      have g1 := ((bcell hO.base).1 b (off + j * 3 + 1) hb).trans d1
      have g2 := ((bcell hO.base).1 b (off + j * 3 + 2) hb).trans d2
      have HT := hid (fun W (hW : Below w.heap.size w W) => toSec_at s ev W (hev.below hW) (HLE.out s (List.mem_of_getElem? hs)))
      have HUP := hid (fun ev => hE.out.up hs ev)
      have HPUT := hid (fun ev => mix_put (ev := ev) hs hel)
      rw [HN.out] at HPUT
      have hml := mix_len (l := l) (es := es) (by have := HN.out; omega) hel
      rw [HN.out] at hml
      have hcl : (scC (mixS l j) (mixV es n)).length = n * 3 := by rw [scC_len hml.1, hml.2]
      obtain ⟨z0, e0⟩ : ∃ z, (scC (mixS l j) (mixV es n))[j * 3]? = some z := ⟨_, List.getElem?_eq_getElem (by omega)⟩
      obtain ⟨z1, e1⟩ : ∃ z, (scC (mixS l j) (mixV es n))[j * 3 + 1]? = some z := ⟨_, List.getElem?_eq_getElem (by omega)⟩
      obtain ⟨z2, e2⟩ : ∃ z, (scC (mixS l j) (mixV es n))[j * 3 + 2]? = some z := ⟨_, List.getElem?_eq_getElem (by omega)⟩
      have HEE := hid (And.intro e0 (And.intro e1 e2))
      have HJ := hid (And.intro hj hlt)
      clear he hs hcell hev d0 d1 d2 hel hml hcl e0 e1 e2 hj hlt
      go_wp2_with ((go_at_call 10; apply own_at hO; (repeat (first | (with_reducible exact hO) | (with_reducible apply Own.alloc) | (with_reducible apply Own.drew) | ((with_reducible apply Own.set_at); (focus (show _ ≤ _; omega))))); have hG := hF; clear hF; clear hO; intro hO; refine own_call_sec hO (fun hB => HT.out _ hB) ?_; clear hO; intro A1 c1 w1 hO; (try simp only [World.size_alloc1, World.size_drew, Nat.reduceAdd] at hO); (try simp only [upd, updI, List.map_cons, List.map_nil, eq_self, if_true, if_false, reduceIte, Nat.add_eq_left, Nat.left_eq_add, Nat.reduceEqDiff, List.set_cons_zero, List.set_cons_succ, hG] at hO); clear hG; have hF := hO; (try simp only [Own, Item.Holds, apartI, CellsAt, Nat.reduceAdd, Nat.zero_add, List.mem_cons, List.not_mem_nil, or_false, forall_eq_or_imp, forall_eq, ne_eq, false_imp_iff, implies_true, and_true] at hF)); replace hO := hO.perm (List.Perm.swap _ _ _); have c0 := hO.row_cell HEE.out.1; have c1' := hO.row_cell HEE.out.2.1; have c2' := hO.row_cell HEE.out.2.2; have r0 := hO.row_free (j * 3); have r1 := hO.row_free (j * 3 + 1); have r2 := hO.row_free (j * 3 + 2); have hO2 := ((hO.row_set (j * 3) (.int .i64 s.b)).row_set (j * 3 + 1) (.int .i64 s.t)).row_set (j * 3 + 2) (.slice A1 s.e.length c1); rw [HPUT.out (.slice A1 s.e.length c1)] at hO2; clear hO hF)
      go_roundw
      case rel => exact ⟨j + 1, es ++ [(.slice A1 s.e.length c1, inC s.e)], by have := HJ.out; omega, by go_num, HUP.out _, by
        rw [rwI_append]
        refine hO2.perm (List.Perm.cons _ ?_)
        have : rwI [(Value.slice A1 s.e.length c1, inC s.e)] = [.row 3 1 (.slice A1 s.e.length c1) s.e.length (inC s.e)] := by simp [rwI]
        rw [this]
        exact (List.perm_append_comm (l₁ := [_]) (l₂ := rwI es))⟩
      case measure => have := HJ.out; simp [intOf]; omega
end Go.Proofs.Ytpfefbpmchigeaa
