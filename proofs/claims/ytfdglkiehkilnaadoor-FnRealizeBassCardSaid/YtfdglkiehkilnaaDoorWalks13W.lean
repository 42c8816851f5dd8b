/- Chapter 13 in the program: the chords from which there is a way; the first way; RealizeBass. -/
import Derived.Test.YtfdglkiehkilnaaDoorWalks13D
import Derived.Test.YtfdglkiehkilnaaDoorWalks13J
namespace Go.Proofs.YtfdglkiehkilnaaDoor
set_option linter.unusedSimpArgs false
set_option linter.unusedVariables false
set_option maxRecDepth 8000
open Go.RowKit Go.Joins

/-- No chord may follow. -/
noncomputable def dlB (es : List (Value × List Pt)) (l : List Pt) : Bool := (fbE l es).isNone
theorem Own.blk_cell {n : Nat} {B : World → Prop} {w : World} {L : List Item} {b j : Nat} {vs : List Value} {v : Value} (h : Own n B w L) (hm : Item.blk b vs ∈ L) (hv : vs[j]? = some v) : w.cell? ⟨b, j, none⟩ = some v := by
  have := (h.cells hm).get hv
  simpa using this
theorem Own.mem_free {n : Nat} {B : World → Prop} {w : World} {L : List Item} {e : TypeId} {size k q cap : Nat} {xs : List Value} (h : Own n B w L) (hm : Item.row e size (.slice (some ⟨q, 0, none⟩) k cap) k xs ∈ L) (i : Nat) : w.frozen? ⟨q, i, none⟩ = false := by
  rcases (h.holds _ hm : w.ownsRow n e size _ k xs).2 with ⟨h2, _⟩ | ⟨g', c', cur, h3, h4, h5, _⟩
  · cases h2
  · cases h3
    simp [World.frozen?, h5]

set_option maxRecDepth 20000 in
set_option maxHeartbeats 4000000 in
theorem pcI_any (q1 q2 qs cs N m : Nat) (c1 v' : Value) (l : List Pt) (es : List (Value × List Pt)) (w : World) (hm : m < N) (hN : N ≤ 8)
    (e1 : w.cell? ⟨q1, 0, none⟩ = some (.slice (some ⟨qs, 0, none⟩) N cs)) (e2 : w.cell? ⟨q2, 0, none⟩ = some (.int .i64 m)) (e3 : w.cell? ⟨qs, m, none⟩ = some v')
    (h4 : l.length = 4) (ha : SlAt w c1 4 3 (pcC l)) (hn : SlAt w v' es.length 1 (vsO es)) (he4 : ∀ c ∈ es, c.2.length = 4) (hes : ∀ c ∈ es, SlAt w c.1 4 3 (pcC c.2)) (hle : es.length ≤ 1528823808) (hT : TabH w) :
    Calls Tryd.prog 108 #[c1, .pointer (some ⟨q1, 0, none⟩), .pointer (some ⟨q2, 0, none⟩)] w fun e w' => e = .returned (.bool (dlB es l)) ∧ Below w.heap.size w w' := by
  have hO := Own.start w
  have hF := True.intro
  have HFB := hid (fun W (hW : Below w.heap.size w W) => fbI_any c1 v' l es W h4 (ha.below hW) (hn.below hW) he4 (fun c hc => (hes c hc).below hW) hle (hT.below hW))
  obtain ⟨A', k', hvf⟩ := hn.form
  subst hvf
  have m0 : (0 : Int) ≤ (m : Int) := by omega
  have m1 : (m : Int) < (N : Int) := by omega
  cases hf : fbE l es with
  | none =>
    have HE := hid (show dlB es l = true by unfold dlB; rw [hf]; rfl)
    have HV := hid (show fbV l es = .slice none 0 0 by unfold fbV; rw [hf]; rfl)
    rw [HV.out] at HFB
    have hnil : ∀ W : World, (binOp BinOp.eql 23 (.slice none 0 0) (.slice none 0 0)).run Tryd.prog W = .ok (.bool true) W := fun W => Lib.run_eql_slice_nil W 23 _ _ 0 0 0 0 Tryd.underlying23
    clear hf ha hn he4 hes hT h4
    go_enter Tryd.func108, Tryd.ntmps108
    go_wp2_with (go_at_call 109; apply own_at hO; (repeat (first | (with_reducible exact hO) | (with_reducible apply Own.alloc) | (with_reducible apply Own.drew) | ((with_reducible apply Own.set_at); (focus (show _ ≤ _; omega))))); have hG := hF; clear hF; clear hO; intro hO; refine own_call hO (fun hB => HFB.out _ hB) ?_; clear hO; intro w1 hO; (try simp only [World.size_alloc1, World.size_drew, Nat.reduceAdd] at hO); (try simp only [upd, updI, List.map_cons, List.map_nil, eq_self, if_true, if_false, reduceIte, Nat.add_eq_left, Nat.left_eq_add, Nat.reduceEqDiff, List.set_cons_zero, List.set_cons_succ, hG] at hO); clear hG; have hF := hO; (try simp only [Own, Item.Holds, apartI, CellsAt, Nat.reduceAdd, Nat.zero_add, List.mem_cons, List.not_mem_nil, or_false, forall_eq_or_imp, forall_eq, ne_eq, false_imp_iff, implies_true, and_true] at hF))
    go_ret
    exact ⟨ret_bool HE.out.symm, Own.base (by first | exact hO | (repeat (first | (with_reducible exact hO) | (with_reducible apply Own.alloc) | (with_reducible apply Own.drew) | ((with_reducible apply Own.set_at); (focus (show _ ≤ _; omega))))))⟩
  | some c =>
    have HE := hid (show dlB es l = false by unfold dlB; rw [hf]; rfl)
    have hc : c ∈ es := by unfold fbE at hf; exact List.mem_of_find?_eq_some hf
    obtain ⟨b, o, k, hcf⟩ : ∃ b o k, c.1 = .slice (some ⟨b, o, none⟩) 4 k := by
      rcases (hes c hc).2 with ⟨_, h⟩ | ⟨b, o, k, h, _⟩
      · omega
      · exact ⟨b, o, k, h⟩
    have HV := hid (show fbV l es = .slice (some ⟨b, o, none⟩) 4 k by unfold fbV; rw [hf, ← hcf]; rfl)
    rw [HV.out] at HFB
    have hnil : ∀ W : World, (binOp BinOp.eql 23 (.slice (some ⟨b, o, none⟩) 4 k) (.slice none 0 0)).run Tryd.prog W = .ok (.bool false) W := fun W => Lib.run_eql_slice_nil W 23 _ _ 4 k 0 0 Tryd.underlying23
    clear hf hc hcf ha hn he4 hes hT h4
    go_enter Tryd.func108, Tryd.ntmps108
    go_wp2_with (go_at_call 109; apply own_at hO; (repeat (first | (with_reducible exact hO) | (with_reducible apply Own.alloc) | (with_reducible apply Own.drew) | ((with_reducible apply Own.set_at); (focus (show _ ≤ _; omega))))); have hG := hF; clear hF; clear hO; intro hO; refine own_call hO (fun hB => HFB.out _ hB) ?_; clear hO; intro w1 hO; (try simp only [World.size_alloc1, World.size_drew, Nat.reduceAdd] at hO); (try simp only [upd, updI, List.map_cons, List.map_nil, eq_self, if_true, if_false, reduceIte, Nat.add_eq_left, Nat.left_eq_add, Nat.reduceEqDiff, List.set_cons_zero, List.set_cons_succ, hG] at hO); clear hG; have hF := hO; (try simp only [Own, Item.Holds, apartI, CellsAt, Nat.reduceAdd, Nat.zero_add, List.mem_cons, List.not_mem_nil, or_false, forall_eq_or_imp, forall_eq, ne_eq, false_imp_iff, implies_true, and_true] at hF))
    go_ret
    exact ⟨ret_bool HE.out.symm, Own.base (by first | exact hO | (repeat (first | (with_reducible exact hO) | (with_reducible apply Own.alloc) | (with_reducible apply Own.drew) | ((with_reducible apply Own.set_at); (focus (show _ ≤ _; omega))))))⟩
end Go.Proofs.YtfdglkiehkilnaaDoor
