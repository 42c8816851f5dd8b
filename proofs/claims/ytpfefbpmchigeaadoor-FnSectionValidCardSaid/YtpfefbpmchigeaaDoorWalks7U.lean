/- Chapter 7 in the model: unfolded bars. -/
import Derived.Test.YtpfefbpmchigeaaDoorWalks7P
import Derived.Test.YtpfefbpmchigeaaDoorWalksPS
namespace Go.Proofs.YtpfefbpmchigeaaDoor
set_option linter.unusedSimpArgs false
set_option linter.unusedVariables false
open Go.RowKit

theorem infoT7 : (Tryd.prog.info? 9).map (fun i => (i.zero, i.size, i.bytes)) = some (some (.string ByteArray.empty), 1, 16) := by kernel_rfl
theorem one1s {x : ByteArray} : ∀ u ∈ [Value.string x], u.oneCell' = true := by
  intro u hu
  simp at hu
  subst hu
  rfl
/-- Texts as cells. -/
abbrev stC (l : List ByteArray) : List Value := l.map Value.string
theorem stC_up (l : List ByteArray) (x : ByteArray) : stC l ++ [Value.string x] = stC (l ++ [x]) := by simp
/-- A slice of texts, empty or not. -/
def StrsAt (w : World) (va : Value) (l : List ByteArray) : Prop := (l = [] ∧ ∃ a c, va = .slice a 0 c) ∨ SlAt w va l.length 1 (stC l)
theorem StrsAt.below {w w' : World} {va : Value} {l : List ByteArray} (h : StrsAt w va l) (hb : Below w.heap.size w w') : StrsAt w' va l := h.imp id fun h => h.below hb
theorem StrsAt.open {w : World} {va : Value} {l : List ByteArray} (h : StrsAt w va l) : ∃ A c, va = .slice A l.length c ∧ (0 < l.length → ∃ b off, A = some ⟨b, off, none⟩ ∧ l.length ≤ c ∧ c ≤ 9223372036854775807 ∧ b < w.heap.size ∧ ∀ (j : Nat) (x : ByteArray), l[j]? = some x → w.cell? ⟨b, off + j, none⟩ = .some (.string x)) := by
  rcases h with ⟨rfl, a, c, rfl⟩ | h
  · exact ⟨a, c, rfl, fun h => by simp at h⟩
  · obtain ⟨A, c, rfl, nb, hA⟩ := h.open
    refine ⟨A, c, rfl, fun hp => ?_⟩
    obtain ⟨b, off, rfl, h1, h2, h3⟩ := hA hp
    exact ⟨b, off, rfl, h1, h2, h3, fun j x hj => h.cellAt (by rw [List.getElem?_map, hj]; rfl)⟩

/-- the bars can be unfolded; unfolded. -/
def unB (l : List Sec) (t : List ByteArray) : Bool := ssB l && decide ((t.length : Int) = wrN l)
def unL (l : List Sec) (t : List ByteArray) : List ByteArray := if unB l t then (plL 0 l).map (fun i => t.getD i.toNat ByteArray.empty) else []
theorem unL_no {l : List Sec} {t : List ByteArray} (h : unB l t = false) : unL l t = [] := by unfold unL; rw [h]; rfl
theorem unL_yes {l : List Sec} {t : List ByteArray} (h : unB l t = true) : unL l t = (plL 0 l).map (fun i => t.getD i.toNat ByteArray.empty) := by unfold unL; rw [if_pos h]
theorem unB_iff {l : List Sec} {t : List ByteArray} : unB l t = true ↔ ssB l = true ∧ (t.length : Int) = wrN l := by unfold unB; simp
/-- the number of a played bar lies among the texts. -/
theorem un_at {l : List Sec} {t : List ByteArray} (h : unB l t = true) {k : Nat} {y : Int} (hk : (plL 0 l)[k]? = some y) : 0 ≤ y ∧ y < (t.length : Int) ∧ t[y.toNat]? = some (t.getD y.toNat ByteArray.empty) := by
  obtain ⟨h1, h2⟩ := unB_iff.1 h
  have := plL_mem (ssB_iff.1 h1).1 (List.mem_of_getElem? hk)
  have hl : y.toNat < t.length := by omega
  refine ⟨by omega, by omega, ?_⟩
  rw [List.getD_eq_getElem?_getD, List.getElem?_eq_getElem hl]
  rfl
theorem wrS_is {va : Value} {l : List Sec} {w : World} {z : Int} (ha : SecsAt w va l) (hn : l.length ≤ 1048576) (hle : ∀ s ∈ l, s.e.length ≤ 1048576) (h : wrZ l = z) (W : World) (hW : Below w.heap.size w W) :
    Calls Tryd.prog 18 #[va] W fun r w' => r = .returned (.int .i64 z) ∧ Below W.heap.size W w' := by
  subst h
  exact wrS_any va l W (ha.below hW) hn hle

set_option maxRecDepth 20000 in
set_option maxHeartbeats 16000000 in
theorem unS_any (va vb : Value) (l : List Sec) (t : List ByteArray) (w : World) (ha : SecsAt w va l) (hb : StrsAt w vb t) (hn : l.length ≤ 1048576) (hle : ∀ s ∈ l, s.e.length ≤ 1048576) (htn : t.length ≤ maxLen) :
    Calls Tryd.prog 25 #[va, vb] w (RowOutB 9 1 (unL l t).length (stC (unL l t)) (unB l t) w) := by
  have hO := Own.start w
  have hF := True.intro
  obtain ⟨i0, hi, hz0, hz1, hz2⟩ := info_parts infoT7
  obtain ⟨A, c, rfl, _⟩ := ha.open
  obtain ⟨A', c', rfl, hA'⟩ := hb.open
  have htn' : (t.length : Int) ≤ 9223372036854775807 := by unfold maxLen at htn; omega
  cases hv : ssB l
  · have HE := hid (show unB l t = false by unfold unB; rw [hv]; rfl)
    have HV := hid (ssS_is ha hn hle hv)
    rw [HE.out, unL_no HE.out]
    clear ha hle hv hA' hb
    go_enter Tryd.func25, Tryd.ntmps25
    go_wp2_with fail
    replace hO := hO.allocRow (e := 9) (cur := #[]) (k := 0) (cap := 0) 1 (by omega) (by unfold maxLen; omega) rfl
    go_wp2_with (go_at_call 15; apply own_at hO; (repeat (first | (with_reducible exact hO) | (with_reducible apply Own.alloc) | (with_reducible apply Own.drew) | ((with_reducible apply Own.set_at); (focus (show _ ≤ _; omega))))); have hG := hF; clear hF; clear hO; intro hO; refine own_call hO (fun hB => HV.out _ hB) ?_; clear hO; intro w1 hO; (try simp only [World.size_alloc1, World.size_drew, Nat.reduceAdd] at hO); (try simp only [upd, updI, List.map_cons, List.map_nil, eq_self, if_true, if_false, reduceIte, Nat.add_eq_left, Nat.left_eq_add, Nat.reduceEqDiff, List.set_cons_zero, List.set_cons_succ, hG] at hO); clear hG; have hF := hO; (try simp only [Own, Item.Holds, apartI, CellsAt, Nat.reduceAdd, Nat.zero_add, List.mem_cons, List.not_mem_nil, or_false, forall_eq_or_imp, forall_eq, ne_eq, false_imp_iff, implies_true, and_true] at hF))
    go_ret2
    exact RowOutB.mk hO
  · have HV := hid (ssS_is ha hn hle hv)
    have HVO := hid hv
    have HW := hid (wrS_is ha hn hle (show wrZ l = wrN l by unfold wrZ; rw [if_pos hv]))
    have HP := hid (poS_is ha hn hle (poL_yes hv))
    by_cases hlen : (t.length : Int) = wrN l
    · have HE := hid (show unB l t = true from unB_iff.2 ⟨hv, hlen⟩)
      have HUA := hid (fun k y => un_at (k := k) (y := y) HE.out)
      have HUL := hid (unL_yes HE.out)
      rw [HE.out, HUL.out]
      obtain ⟨m, hm⟩ : ∃ m, t.length = m := ⟨_, rfl⟩
      have HM := hid hm
      have pl := po_len hv
      obtain ⟨O, hO'⟩ : ∃ O, plL 0 l = O := ⟨_, rfl⟩
      rw [hO'] at HP HUA pl
      rw [hO']
      obtain ⟨N, hN⟩ : ∃ N, O.length = N := ⟨_, rfl⟩
      have HN := hid hN
      rw [hN] at HP pl
      rw [hm] at hA' HUA hlen htn'
      rw [hm]
      rw [List.length_map, hN]
      rw [← hlen] at HW
      have n1 : N ≤ 768 := by omega
      clear ha hle hv hb hm hO' hN HUL pl hlen htn
      go_enter Tryd.func25, Tryd.ntmps25
      go_wp2_with fail
      replace hO := hO.allocRow (e := 9) (cur := #[]) (k := 0) (cap := 0) 1 (by omega) (by unfold maxLen; omega) rfl
      go_wp2_with (first | (go_at_call 15; apply own_at hO; (repeat (first | (with_reducible exact hO) | (with_reducible apply Own.alloc) | (with_reducible apply Own.drew) | ((with_reducible apply Own.set_at); (focus (show _ ≤ _; omega))))); have hG := hF; clear hF; clear hO; intro hO; refine own_call hO (fun hB => HV.out _ hB) ?_; clear hO; intro w1 hO; (try simp only [World.size_alloc1, World.size_drew, Nat.reduceAdd] at hO); (try simp only [upd, updI, List.map_cons, List.map_nil, eq_self, if_true, if_false, reduceIte, Nat.add_eq_left, Nat.left_eq_add, Nat.reduceEqDiff, List.set_cons_zero, List.set_cons_succ, hG] at hO); clear hG; have hF := hO; (try simp only [Own, Item.Holds, apartI, CellsAt, Nat.reduceAdd, Nat.zero_add, List.mem_cons, List.not_mem_nil, or_false, forall_eq_or_imp, forall_eq, ne_eq, false_imp_iff, implies_true, and_true] at hF)) | (go_at_call 18; apply own_at hO; (repeat (first | (with_reducible exact hO) | (with_reducible apply Own.alloc) | (with_reducible apply Own.drew) | ((with_reducible apply Own.set_at); (focus (show _ ≤ _; omega))))); have hG := hF; clear hF; clear hO; intro hO; refine own_call hO (fun hB => HW.out _ hB) ?_; clear hO; intro w1 hO; (try simp only [World.size_alloc1, World.size_drew, Nat.reduceAdd] at hO); (try simp only [upd, updI, List.map_cons, List.map_nil, eq_self, if_true, if_false, reduceIte, Nat.add_eq_left, Nat.left_eq_add, Nat.reduceEqDiff, List.set_cons_zero, List.set_cons_succ, hG] at hO); clear hG; have hF := hO; (try simp only [Own, Item.Holds, apartI, CellsAt, Nat.reduceAdd, Nat.zero_add, List.mem_cons, List.not_mem_nil, or_false, forall_eq_or_imp, forall_eq, ne_eq, false_imp_iff, implies_true, and_true] at hF)) | (go_at_call 22; apply own_at hO; (repeat (first | (with_reducible exact hO) | (with_reducible apply Own.alloc) | (with_reducible apply Own.drew) | ((with_reducible apply Own.set_at); (focus (show _ ≤ _; omega))))); have hG := hF; clear hF; clear hO; intro hO; refine own_call_row hO (fun hB => HP.out _ hB) ?_; clear hO; intro v w1 hO; (try simp only [World.size_alloc1, World.size_drew, Nat.reduceAdd] at hO); (try simp only [upd, updI, List.map_cons, List.map_nil, eq_self, if_true, if_false, reduceIte, Nat.add_eq_left, Nat.left_eq_add, Nat.reduceEqDiff, List.set_cons_zero, List.set_cons_succ, hG] at hO); clear hG; have hF := hO; (try simp only [Own, Item.Holds, apartI, CellsAt, Nat.reduceAdd, Nat.zero_add, List.mem_cons, List.not_mem_nil, or_false, forall_eq_or_imp, forall_eq, ne_eq, false_imp_iff, implies_true, and_true] at hF)))
      obtain ⟨A1, cp1, hv1⟩ := (SlAt.of_row hO.1.1).form
      subst hv1
      replace hO := Own.perm (List.Perm.swap _ _ _) hO
      clear hF
      go_loopw [6, 8] (fun o t' wr => ∃ k : Nat, k ≤ N ∧ t' = .int .i64 k ∧ Own w.heap.size (Below w.heap.size w) wr [.row 9 1 o k (stC ((O.take k).map (fun i => t.getD i.toNat ByteArray.empty))), .row 3 1 (.slice A1 N cp1) N (inC O)]) (fun _ t' _ => N - (intOf t').toNat)
      case atStart => exact ⟨0, by omega, rfl, hO⟩
      case round =>
        clear hO
        obtain ⟨k, hk, rfl, hO⟩ := hrel
        have hF := hO; (try simp only [Own, Item.Holds, apartI, CellsAt, Nat.reduceAdd, Nat.zero_add, List.mem_cons, List.not_mem_nil, or_false, forall_eq_or_imp, forall_eq, ne_eq, false_imp_iff, implies_true, and_true] at hF)
        by_cases hend : k = N
        · subst hend
          rw [show O.take k = O by rw [← HN.out, List.take_length]] at hO
          go_wp2_with fail
          go_ret2
          exact RowOutB.mk hO
        · have hlt : k < N := by omega
          have hlt2 : (k : Int) < N := by omega
          obtain ⟨q, cp, hq, q1, q2⟩ := hO.2.row_open (by omega)
          cases hq
          unfold maxLen at q2
          obtain ⟨y, hy⟩ : ∃ y, O[k]? = some y := ⟨_, List.getElem?_eq_getElem (by have := HN.out; omega)⟩
          obtain ⟨y0, y1, hy2⟩ := HUA.out k y hy
          obtain ⟨b, off, rfl, c1, c2, hb2, hcell⟩ := hA' (by omega)
          have g0 := hO.2.row_cell (i := k) (u := .int .i64 y) (by rw [List.getElem?_map, hy]; rfl)
          have g1 := ((bcell hO.base).1 b (off + y.toNat) hb2).trans (hcell _ _ hy2)
          have HU := hid (show O.take (k + 1) = O.take k ++ [y] from get_up hy)
          obtain ⟨z, hz⟩ : ∃ z, t.getD y.toNat ByteArray.empty = z := ⟨_, rfl⟩
          have HZ := hid hz
          rw [hz] at g1
          clear hend hk hy hy2 hcell hz
          go_wp2_with (at_builtin; apply own_list hO; (repeat (first | (with_reducible exact hO) | (with_reducible apply Own.alloc) | (with_reducible apply Own.drew) | ((with_reducible apply Own.set_at); (focus (show _ ≤ _; omega))))); have hG := hF; clear hF; clear hO; intro hO; (try simp only [World.size_alloc1, World.size_drew, Nat.reduceAdd] at hO); (try simp only [upd, updI, List.map_cons, List.map_nil, eq_self, if_true, if_false, reduceIte, Nat.add_eq_left, Nat.left_eq_add, Nat.reduceEqDiff, List.set_cons_zero, List.set_cons_succ, hG] at hO); clear hG; (try simp only [World.size_setCell] at hO); refine wpList_append_item rfl _ _ 37 rfl 9 i0 (.string ByteArray.empty) 1 16 Tryd.underlying37 hi hz0 hz1 hz2 rfl (by decide) rfl rfl hO rfl one1s (by unfold maxLen; omega) (by omega) ?_; clear hO; intro v' w2 hO _; have hF := hO; (try simp only [Own, Item.Holds, apartI, CellsAt, Nat.reduceAdd, Nat.zero_add, List.mem_cons, List.not_mem_nil, or_false, forall_eq_or_imp, forall_eq, ne_eq, false_imp_iff, implies_true, and_true] at hF))
          go_roundw
          case rel => exact ⟨k + 1, by omega, by go_num, by rw [HU.out, List.map_append, List.map_singleton, HZ.out, ← stC_up]; exact hO⟩
          case measure => simp [intOf]; omega
    · have HE := hid (show unB l t = false by unfold unB; rw [hv]; simp [hlen])
      rw [HE.out, unL_no HE.out]
      obtain ⟨m, hm⟩ : ∃ m, t.length = m := ⟨_, rfl⟩
      obtain ⟨z, hz⟩ : ∃ z, wrN l = z := ⟨_, rfl⟩
      rw [hm] at hlen htn'
      rw [hz] at HW hlen
      rw [hm]
      have h2 : ¬ ((m : Int) = z) := hlen
      clear ha hle hv hA' hb hm hz hlen HP htn
      go_enter Tryd.func25, Tryd.ntmps25
      go_wp2_with fail
      replace hO := hO.allocRow (e := 9) (cur := #[]) (k := 0) (cap := 0) 1 (by omega) (by unfold maxLen; omega) rfl
      go_wp2_with (first | (go_at_call 15; apply own_at hO; (repeat (first | (with_reducible exact hO) | (with_reducible apply Own.alloc) | (with_reducible apply Own.drew) | ((with_reducible apply Own.set_at); (focus (show _ ≤ _; omega))))); have hG := hF; clear hF; clear hO; intro hO; refine own_call hO (fun hB => HV.out _ hB) ?_; clear hO; intro w1 hO; (try simp only [World.size_alloc1, World.size_drew, Nat.reduceAdd] at hO); (try simp only [upd, updI, List.map_cons, List.map_nil, eq_self, if_true, if_false, reduceIte, Nat.add_eq_left, Nat.left_eq_add, Nat.reduceEqDiff, List.set_cons_zero, List.set_cons_succ, hG] at hO); clear hG; have hF := hO; (try simp only [Own, Item.Holds, apartI, CellsAt, Nat.reduceAdd, Nat.zero_add, List.mem_cons, List.not_mem_nil, or_false, forall_eq_or_imp, forall_eq, ne_eq, false_imp_iff, implies_true, and_true] at hF)) | (go_at_call 18; apply own_at hO; (repeat (first | (with_reducible exact hO) | (with_reducible apply Own.alloc) | (with_reducible apply Own.drew) | ((with_reducible apply Own.set_at); (focus (show _ ≤ _; omega))))); have hG := hF; clear hF; clear hO; intro hO; refine own_call hO (fun hB => HW.out _ hB) ?_; clear hO; intro w1 hO; (try simp only [World.size_alloc1, World.size_drew, Nat.reduceAdd] at hO); (try simp only [upd, updI, List.map_cons, List.map_nil, eq_self, if_true, if_false, reduceIte, Nat.add_eq_left, Nat.left_eq_add, Nat.reduceEqDiff, List.set_cons_zero, List.set_cons_succ, hG] at hO); clear hG; have hF := hO; (try simp only [Own, Item.Holds, apartI, CellsAt, Nat.reduceAdd, Nat.zero_add, List.mem_cons, List.not_mem_nil, or_false, forall_eq_or_imp, forall_eq, ne_eq, false_imp_iff, implies_true, and_true] at hF)))
      go_ret2
      exact RowOutB.mk hO

theorem madeT (n : Nat) : (madeCells (Value.string ByteArray.empty).cells (n * 1)).toList = stC (List.replicate n ByteArray.empty) := by
  have hz : (Value.string ByteArray.empty).cells = #[.string ByteArray.empty] := by kernel_rfl
  rw [hz]
  have := made_rep #[Value.string ByteArray.empty] (by decide) n
  rw [show (#[Value.string ByteArray.empty] : Array Value).size = 1 from rfl] at this
  rw [this]
  show _ = List.map Value.string (List.replicate n ByteArray.empty)
  rw [List.map_replicate]
  clear this hz
  induction n with
  | zero => rfl
  | succ n ih => rw [List.replicate_succ, List.flatten_cons, ih, List.replicate_succ]; rfl
/-- The first k of them are laid, the others empty. -/
def mixT (u : List ByteArray) (k : Nat) : List ByteArray := u.take k ++ List.replicate (u.length - k) ByteArray.empty
theorem mixT_zero (u : List ByteArray) : mixT u 0 = List.replicate u.length ByteArray.empty := by simp [mixT]
theorem mixT_full (u : List ByteArray) : mixT u u.length = u := by simp [mixT]
theorem mixT_len (u : List ByteArray) {k : Nat} (h : k ≤ u.length) : (mixT u k).length = u.length := by simp [mixT]; omega
theorem mixT_put {u : List ByteArray} {k : Nat} {x : ByteArray} (h : u[k]? = some x) : (stC (mixT u k)).set k (.string x) = stC (mixT u (k + 1)) := by
  have hl := (List.getElem?_eq_some_iff.1 h).1
  unfold mixT
  rw [get_up h, show u.length - k = (u.length - (k + 1)) + 1 by omega, List.replicate_succ]
  have ht : (u.take k).length = k := by rw [List.length_take]; omega
  unfold stC
  rw [← List.map_set, List.set_append, if_neg (by omega), ht, Nat.sub_self, List.set_cons_zero, List.append_assoc]
  rfl
end Go.Proofs.YtpfefbpmchigeaaDoor
