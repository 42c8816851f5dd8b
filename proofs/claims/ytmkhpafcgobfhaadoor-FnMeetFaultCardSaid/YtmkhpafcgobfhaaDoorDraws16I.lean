/- DrawIsCanon. -/
import Derived.Test.YtmkhpafcgobfhaaDoorDraws16
import Derived.Test.YtmkhpafcgobfhaaDoorWalks16N
namespace Go.Proofs.YtmkhpafcgobfhaaDoor
set_option linter.unusedSimpArgs false
set_option linter.unusedVariables false
set_option maxRecDepth 8000
open Go.RowKit

/-- A voice, and its canon or itself. -/
def DrewIc (w : World) (e : Ending) (w' : World) : Prop :=
  ∃ (u : Value) (a : List Nt) (u' : Value) (b : List Nt), a.length ≤ 61 ∧ b.length ≤ 62 ∧ e = .returned (.tuple #[u, u']) ∧ SlAt w' u a.length 6 (vcC a) ∧ SlAt w' u' b.length 6 (vcC b) ∧ Below w.heap.size w w'
theorem cn16 {v l : List Nt} {d st ha : Int} {b : Bool} {n k : Nat} (hn : v.length = n) (hm : n ≤ 1048576) (hl : caL v d st ha = l) (hk : l.length = k) (hb : caB v d st ha = b) (va : Value) (W : World) (hs : SlAt W va n 6 (vcC v)) :
    Calls Tryd.prog 30 #[va, .int .i64 d, .agg #[.int .i64 st, .int .i64 ha]] W (RowOutB 53 6 k (vcC l) b W) := by
  subst hk hl hb hn; exact cnoS_any va v d st ha W hs hm
theorem setT16 {p : List Nt} {x : Nt} {m : Nat} {t : Int} (h : p.length = m) : (vcC (p ++ [x])).set (m * 6 + 4) (.int .i64 t) = vcC (p ++ [{ x with t := t }]) := by
  have hl := vcC_len p
  rw [vcC_append, vcC_append, List.set_append_right _ _ (by omega), show m * 6 + 4 - (vcC p).length = 4 by omega]
  rfl

set_option maxRecDepth 20000 in
set_option maxHeartbeats 4000000 in
theorem DrawIsCanon_any (v : Value) (n : Nat) (w : World) (hn : n ≤ maxLen) (h : BytesB w w.heap.size v n) :
    Calls Tryd.prog 34 #[v] w (DrewIc w) := by
  obtain ⟨A, c, rfl⟩ : ∃ a c, v = .slice a n c := by
    rcases h with ⟨rfl, a, c, rfl⟩ | ⟨_, b, off, cap, _, _, rfl, _⟩
    · exact ⟨a, c, rfl⟩
    · exact ⟨_, cap, rfl⟩
  go_enter Tryd.func34, Tryd.ntmps34
  go_wp2_with fail
  refine (DrawCanonOf_any _ n _ hn h).mono ?_
  rintro e w1 ⟨u, vs, d, st, ha, hv, hl, hd, hst, hha, rfl, hO⟩
  have hF := True.intro
  obtain ⟨l, hcl⟩ : ∃ l, caL vs d st ha = l := ⟨_, rfl⟩
  obtain ⟨k, hk⟩ : ∃ k, l.length = k := ⟨_, rfl⟩
  obtain ⟨m, hm⟩ : ∃ m, vs.length = m := ⟨_, rfl⟩
  have hk0 := fun (hb : caB vs d st ha = true) => ca_len hb
  rw [hcl, hk, hm] at hk0
  rw [hm] at hO hl
  obtain ⟨A', c', rfl⟩ := (SlAt.of_row hO.1.1).form
  unfold maxLen at hn
  cases hb : caB vs d st ha
  · have HC := hid (fun va W => cn16 hm (by omega) hcl hk hb va W)
    have HM := hid hm
    clear hb hk hcl hk0 hv h hm
    go_wp2_with ((go_at_call 30; apply own_at hO; (repeat (first | (with_reducible exact hO) | (with_reducible apply Own.alloc) | (with_reducible apply Own.drew) | ((with_reducible apply Own.set_at); (focus (show _ ≤ _; omega))))); have hG := hF; clear hF; clear hO; intro hO; refine own_call_rowB hO (fun hB => HC.out _ _ (SlAt.of_row hO.2.1.1)) ?_; clear hO; intro v w1 hO; (try simp only [World.size_alloc1, World.size_drew, Nat.reduceAdd] at hO); (try simp only [upd, updI, List.map_cons, List.map_nil, eq_self, if_true, if_false, reduceIte, Nat.add_eq_left, Nat.left_eq_add, Nat.reduceEqDiff, List.set_cons_zero, List.set_cons_succ, hG] at hO); clear hG; have hF := hO; (try simp only [Own, Item.Holds, apartI, CellsAt, Nat.reduceAdd, Nat.zero_add, List.mem_cons, List.not_mem_nil, or_false, forall_eq_or_imp, forall_eq, ne_eq, false_imp_iff, implies_true, and_true] at hF)))
    go_ret2
    exact ⟨_, vs, _, vs, by have := HM.out; omega, by have := HM.out; omega, rfl, by rw [HM.out]; exact SlAt.of_row hO.2.2.1.1, by rw [HM.out]; exact SlAt.of_row hO.2.2.1.1, hO.base⟩
  · have HC := hid (fun va W => cn16 hm (by omega) hcl hk hb va W)
    have hkm := hk0 hb
    subst hkm
    have HM := hid hm
    have HK := hid hk
    clear hb hcl hk0 hv h hm
    obtain ⟨p, z, hp, hpm⟩ := split_last hk
    subst hp
    have HP := hid hpm
    have HL := hid (vcC_at (last_at (x := z) hpm))
    have w2' : IntKind.i64.wrap (m : Int) = (m : Int) := IntWalk.i64_in _ (by omega)
    have m0 : (0 : Int) ≤ (m : Int) := by omega
    have m1 : (m : Int) < (m : Int) + 1 := by omega
    clear hk hpm
    go_wp2_with fail
    (go_at_call 30; apply own_at hO; (repeat (first | (with_reducible exact hO) | (with_reducible apply Own.alloc) | (with_reducible apply Own.drew) | ((with_reducible apply Own.set_at); (focus (show _ ≤ _; omega))))); have hG := hF; clear hF; clear hO; intro hO; refine own_call_rowB hO (fun hB => HC.out _ _ (SlAt.of_row hO.2.1.1)) ?_; clear hO; intro v w1 hO; (try simp only [World.size_alloc1, World.size_drew, Nat.reduceAdd] at hO); (try simp only [upd, updI, List.map_cons, List.map_nil, eq_self, if_true, if_false, reduceIte, Nat.add_eq_left, Nat.left_eq_add, Nat.reduceEqDiff, List.set_cons_zero, List.set_cons_succ, hG] at hO); clear hG; have hF := hO; (try simp only [Own, Item.Holds, apartI, CellsAt, Nat.reduceAdd, Nat.zero_add, List.mem_cons, List.not_mem_nil, or_false, forall_eq_or_imp, forall_eq, ne_eq, false_imp_iff, implies_true, and_true] at hF))
    obtain ⟨q, cp, hv1, hq1, hq2⟩ := hO.row_open (by omega)
    subst hv1
    have l4 := hO.row_cell HL.out.2.2.2.2.1
    have f4 := hO.row_free (m * 6 + 4)
    go_wp2_with fail
    all_goals go_ret2
    · have hO2 := hO.row_set (m * 6 + 4) (.int .i64 (wrap64 (z.t.tmod 768 + 1)))
      rw [setT16 HP.out] at hO2
      have HK2 : (p ++ [({ z with t := wrap64 (z.t.tmod 768 + 1) } : Nt)]).length = m + 1 := by simp [HP.out]
      refine ⟨_, vs, _, p ++ [{ z with t := wrap64 (z.t.tmod 768 + 1) }], by have := HM.out; omega, ?_, rfl, by rw [HM.out]; exact SlAt.of_row hO2.2.2.1.1, by rw [HK2]; exact SlAt.of_row hO2.1.1, hO2.base⟩
      simp [HP.out]; omega
    all_goals exact ⟨_, vs, _, p ++ [z], by have := HM.out; omega, by have := HK.out; omega, rfl, by rw [HM.out]; exact SlAt.of_row hO.2.2.1.1, by rw [HK.out]; exact SlAt.of_row hO.1.1, hO.base⟩
end Go.Proofs.YtmkhpafcgobfhaaDoor
