/- Chapter 16 in the model: MeetTicks, MeetFault, CanonOf. -/
import Derived.Test.YtmkhpafcgobfhaaDoorWalks16S
import Derived.Test.YtmkhpafcgobfhaaDoorCon16
import Derived.Test.YtmkhpafcgobfhaaDoorCon5H
import Derived.Test.YtmkhpafcgobfhaaDoorRegionD
namespace Go.Proofs.YtmkhpafcgobfhaaDoor
set_option linter.unusedSimpArgs false
set_option linter.unusedVariables false
set_option maxRecDepth 8000
open Go.RowKit Go.Joins

theorem vo16 {va : Value} {v : List Nt} {n : Nat} {w : World} {z : Bool} (hl : v.length = n) (ha : SlAt w va n 6 (vcC v)) (hn : n ≤ 1048576) (h : voB v = z) (W : World) (hW : Below w.heap.size w W) :
    Calls Tryd.prog 68 #[va] W fun e w' => e = .returned (.bool z) ∧ Below W.heap.size W w' := by
  subst hl h; exact voS_any va v W (ha.below hW) hn

theorem sh16 {va : Value} {v u : List Nt} {n k : Nat} {st ha : Int} {b : Bool} {w : World} (hl : v.length = n) (hs : SlAt w va n 6 (vcC v)) (hn : n ≤ 1048576) (hu : shL v st ha = u) (hk : u.length = k) (hb : shB v st ha = b) (W : World) (hW : Below w.heap.size w W) :
    Calls Tryd.prog 46 #[va, .agg #[.int .i64 st, .int .i64 ha]] W (RowOutB 53 6 k (vcC u) b W) := by
  subst hl hu hk hb; exact svS_any va v st ha W (hs.below hW) hn

theorem keyS16 {x : Nt} {z : Int} (h : keyZ x.s x.a x.o = z) (w : World) : Calls Tryd.prog 89 #[.agg #[.int .i64 x.s, .int .i64 x.a, .int .i64 x.o]] w fun e w' => e = .returned (.int .i64 z) ∧ Below w.heap.size w w' := by
  subst h; exact keyS_any x.s x.a x.o w

theorem on16 {va vb : Value} {a b : List Nt} {u : List Int} {n m k : Nat} {w : World} (h1 : a.length = n) (h2 : b.length = m) (ha : SlAt w va n 6 (vcC a)) (hb : SlAt w vb m 6 (vcC b)) (v1 : voB a = true) (v2 : voB b = true) (hu : onL a b (moZ a b) = u) (hk : u.length = k) (W : World) (hW : Below w.heap.size w W) :
    Calls Tryd.prog 87 #[va, vb] W (RowOut 3 1 k (intC u) W) := by
  subst h1 h2 hu hk; exact onS_any va vb a b W (ha.below hW) (hb.below hW) v1 v2

set_option maxRecDepth 20000 in
set_option maxHeartbeats 4000000 in
theorem mtS_any (va vb : Value) (a b : List Nt) (w : World) (ha : SlAt w va a.length 6 (vcC a)) (hb : SlAt w vb b.length 6 (vcC b)) (hn : a.length ≤ 1048576) (hm : b.length ≤ 1048576) :
    Calls Tryd.prog 57 #[va, vb] w (RowOut 3 1 (mtL a b).length (intC (mtL a b)) w) := by
  have hO := Own.start w
  have hF := True.intro
  obtain ⟨u, hu⟩ : ∃ u, mtL a b = u := ⟨_, rfl⟩
  obtain ⟨k, hk⟩ : ∃ k, u.length = k := ⟨_, rfl⟩
  rw [hu, hk]
  obtain ⟨A, ca, rfl, nb, _⟩ := ha.open
  obtain ⟨A', cb, rfl, mb, _⟩ := hb.open
  obtain ⟨x, hx⟩ : ∃ b, voB a = b := ⟨_, rfl⟩
  obtain ⟨y, hy⟩ : ∃ c, voB b = c := ⟨_, rfl⟩
  have HVA := hid (fun W (hW : Below w.heap.size w W) => vo16 rfl ha hn hx W hW)
  have HVB := hid (fun W (hW : Below w.heap.size w W) => vo16 rfl hb hm hy W hW)
  cases x
  · have HE := hid (show [] = u ∧ 0 = k by
      have : u = [] := by rw [← hu]; unfold mtL bvB; rw [hx]; rfl
      subst this; exact ⟨rfl, hk⟩)
    clear ha hb hx hy hu hk
    go_enter Tryd.func57, Tryd.ntmps57
    go_wp2_with (go_at_call 68; apply own_at hO; (repeat (first | (with_reducible exact hO) | (with_reducible apply Own.alloc) | (with_reducible apply Own.drew) | ((with_reducible apply Own.set_at); (focus (show _ ≤ _; omega))))); have hG := hF; clear hF; clear hO; intro hO; refine own_call hO (fun hB => HVA.out _ hB) ?_; clear hO; intro w1 hO; (try simp only [World.size_alloc1, World.size_drew, Nat.reduceAdd] at hO); (try simp only [upd, updI, List.map_cons, List.map_nil, eq_self, if_true, if_false, reduceIte, Nat.add_eq_left, Nat.left_eq_add, Nat.reduceEqDiff, List.set_cons_zero, List.set_cons_succ, hG] at hO); clear hG; have hF := hO; (try simp only [Own, Item.Holds, apartI, CellsAt, Nat.reduceAdd, Nat.zero_add, List.mem_cons, List.not_mem_nil, or_false, forall_eq_or_imp, forall_eq, ne_eq, false_imp_iff, implies_true, and_true] at hF))
    go_ret
    rw [← HE.out.1, ← HE.out.2]
    exact RowOut.mk (hO.allocRow (e := 3) (cur := #[]) (k := 0) (cap := 0) 1 (by omega) (by unfold maxLen; omega) rfl)
  · cases y
    · have HE := hid (show [] = u ∧ 0 = k by
        have : u = [] := by rw [← hu]; unfold mtL bvB; rw [hx, hy]; rfl
        subst this; exact ⟨rfl, hk⟩)
      obtain ⟨n, hn9⟩ : ∃ n, a.length = n := ⟨_, rfl⟩
      obtain ⟨m, hm9⟩ : ∃ n, b.length = n := ⟨_, rfl⟩
      rw [hn9] at HVA ⊢
      rw [hm9] at HVB ⊢
      clear ha hb hx hy hu hk hn9 hm9
      go_enter Tryd.func57, Tryd.ntmps57
      go_wp2_with fail
      (go_at_call 68; apply own_at hO; (repeat (first | (with_reducible exact hO) | (with_reducible apply Own.alloc) | (with_reducible apply Own.drew) | ((with_reducible apply Own.set_at); (focus (show _ ≤ _; omega))))); have hG := hF; clear hF; clear hO; intro hO; refine own_call hO (fun hB => HVA.out _ hB) ?_; clear hO; intro w1 hO; (try simp only [World.size_alloc1, World.size_drew, Nat.reduceAdd] at hO); (try simp only [upd, updI, List.map_cons, List.map_nil, eq_self, if_true, if_false, reduceIte, Nat.add_eq_left, Nat.left_eq_add, Nat.reduceEqDiff, List.set_cons_zero, List.set_cons_succ, hG] at hO); clear hG; have hF := hO; (try simp only [Own, Item.Holds, apartI, CellsAt, Nat.reduceAdd, Nat.zero_add, List.mem_cons, List.not_mem_nil, or_false, forall_eq_or_imp, forall_eq, ne_eq, false_imp_iff, implies_true, and_true] at hF))
      go_wp2_with (go_at_call 68; apply own_at hO; (repeat (first | (with_reducible exact hO) | (with_reducible apply Own.alloc) | (with_reducible apply Own.drew) | ((with_reducible apply Own.set_at); (focus (show _ ≤ _; omega))))); have hG := hF; clear hF; clear hO; intro hO; refine own_call hO (fun hB => HVB.out _ hB) ?_; clear hO; intro w1 hO; (try simp only [World.size_alloc1, World.size_drew, Nat.reduceAdd] at hO); (try simp only [upd, updI, List.map_cons, List.map_nil, eq_self, if_true, if_false, reduceIte, Nat.add_eq_left, Nat.left_eq_add, Nat.reduceEqDiff, List.set_cons_zero, List.set_cons_succ, hG] at hO); clear hG; have hF := hO; (try simp only [Own, Item.Holds, apartI, CellsAt, Nat.reduceAdd, Nat.zero_add, List.mem_cons, List.not_mem_nil, or_false, forall_eq_or_imp, forall_eq, ne_eq, false_imp_iff, implies_true, and_true] at hF))
      go_ret
      rw [← HE.out.1, ← HE.out.2]
      exact RowOut.mk (hO.allocRow (e := 3) (cur := #[]) (k := 0) (cap := 0) 1 (by omega) (by unfold maxLen; omega) rfl)
    · have HON := hid (fun W (hW : Below w.heap.size w W) => on16 rfl rfl ha hb hx hy (show onL a b (moZ a b) = u by rw [← hu]; unfold mtL bvB; rw [hx, hy]; rfl) hk W hW)
      obtain ⟨n, hn9⟩ : ∃ n, a.length = n := ⟨_, rfl⟩
      obtain ⟨m, hm9⟩ : ∃ n, b.length = n := ⟨_, rfl⟩
      rw [hn9] at HVA HON ⊢
      rw [hm9] at HVB HON ⊢
      clear ha hb hx hy hu hk hn9 hm9
      go_enter Tryd.func57, Tryd.ntmps57
      go_wp2_with fail
      (go_at_call 68; apply own_at hO; (repeat (first | (with_reducible exact hO) | (with_reducible apply Own.alloc) | (with_reducible apply Own.drew) | ((with_reducible apply Own.set_at); (focus (show _ ≤ _; omega))))); have hG := hF; clear hF; clear hO; intro hO; refine own_call hO (fun hB => HVA.out _ hB) ?_; clear hO; intro w1 hO; (try simp only [World.size_alloc1, World.size_drew, Nat.reduceAdd] at hO); (try simp only [upd, updI, List.map_cons, List.map_nil, eq_self, if_true, if_false, reduceIte, Nat.add_eq_left, Nat.left_eq_add, Nat.reduceEqDiff, List.set_cons_zero, List.set_cons_succ, hG] at hO); clear hG; have hF := hO; (try simp only [Own, Item.Holds, apartI, CellsAt, Nat.reduceAdd, Nat.zero_add, List.mem_cons, List.not_mem_nil, or_false, forall_eq_or_imp, forall_eq, ne_eq, false_imp_iff, implies_true, and_true] at hF))
      go_wp2_with fail
      (go_at_call 68; apply own_at hO; (repeat (first | (with_reducible exact hO) | (with_reducible apply Own.alloc) | (with_reducible apply Own.drew) | ((with_reducible apply Own.set_at); (focus (show _ ≤ _; omega))))); have hG := hF; clear hF; clear hO; intro hO; refine own_call hO (fun hB => HVB.out _ hB) ?_; clear hO; intro w1 hO; (try simp only [World.size_alloc1, World.size_drew, Nat.reduceAdd] at hO); (try simp only [upd, updI, List.map_cons, List.map_nil, eq_self, if_true, if_false, reduceIte, Nat.add_eq_left, Nat.left_eq_add, Nat.reduceEqDiff, List.set_cons_zero, List.set_cons_succ, hG] at hO); clear hG; have hF := hO; (try simp only [Own, Item.Holds, apartI, CellsAt, Nat.reduceAdd, Nat.zero_add, List.mem_cons, List.not_mem_nil, or_false, forall_eq_or_imp, forall_eq, ne_eq, false_imp_iff, implies_true, and_true] at hF))
      go_wp2_with (go_at_call 87; apply own_at hO; (repeat (first | (with_reducible exact hO) | (with_reducible apply Own.alloc) | (with_reducible apply Own.drew) | ((with_reducible apply Own.set_at); (focus (show _ ≤ _; omega))))); have hG := hF; clear hF; clear hO; intro hO; refine own_call_row hO (fun hB => HON.out _ hB) ?_; clear hO; intro v w1 hO; (try simp only [World.size_alloc1, World.size_drew, Nat.reduceAdd] at hO); (try simp only [upd, updI, List.map_cons, List.map_nil, eq_self, if_true, if_false, reduceIte, Nat.add_eq_left, Nat.left_eq_add, Nat.reduceEqDiff, List.set_cons_zero, List.set_cons_succ, hG] at hO); clear hG; have hF := hO; (try simp only [Own, Item.Holds, apartI, CellsAt, Nat.reduceAdd, Nat.zero_add, List.mem_cons, List.not_mem_nil, or_false, forall_eq_or_imp, forall_eq, ne_eq, false_imp_iff, implies_true, and_true] at hF))
      go_ret
      exact RowOut.mk hO
theorem mtS_C (w : World) : CMt 57 w := fun va vb a b W _ h1 h2 hn hm => mtS_any va vb a b W h1 h2 hn hm

set_option maxRecDepth 20000 in
set_option maxHeartbeats 4000000 in
theorem skyS_any (va : Value) (v : List Nt) (t : Int) (w : World) (hs : SlAt w va v.length 6 (vcC v)) (hn : v.length ≤ 1048576) (ht : t ≤ 9223372036854775807) :
    Calls Tryd.prog 58 #[va, .int .i64 t] w fun e w' => e = .returned (.int .i64 (sdZ v t)) ∧ Below w.heap.size w w' := by
  have hO := Own.start w
  have hF := True.intro
  obtain ⟨A, c, rfl, nb, hA⟩ := hs.open
  obtain ⟨n, hnl⟩ : ∃ n, v.length = n := ⟨_, rfl⟩
  obtain ⟨z, hz⟩ : ∃ z, naZ v t = z := ⟨_, rfl⟩
  have HNA := hid (fun W (hW : Below w.heap.size w W) => na16 hnl (by rw [← hnl]; exact hs) (by omega) ht hz W hW)
  have HSD := hid (show sdZ v t = sdK v z by unfold sdZ; rw [hz])
  have HS := hid hs
  have HN := hid hnl
  rw [hnl] at hn nb hA HS HNA ⊢
  clear hs hnl
  by_cases h0 : z < 0
  · have HV := hid (show sdZ v t = -100 by rw [HSD.out, sdK_no h0])
    clear hz
    go_enter Tryd.func58, Tryd.ntmps58
    go_wp2_with (go_at_call 88; apply own_at hO; (repeat (first | (with_reducible exact hO) | (with_reducible apply Own.alloc) | (with_reducible apply Own.drew) | ((with_reducible apply Own.set_at); (focus (show _ ≤ _; omega))))); have hG := hF; clear hF; clear hO; intro hO; refine own_call hO (fun hB => HNA.out _ hB) ?_; clear hO; intro w1 hO; (try simp only [World.size_alloc1, World.size_drew, Nat.reduceAdd] at hO); (try simp only [upd, updI, List.map_cons, List.map_nil, eq_self, if_true, if_false, reduceIte, Nat.add_eq_left, Nat.left_eq_add, Nat.reduceEqDiff, List.set_cons_zero, List.set_cons_succ, hG] at hO); clear hG; have hF := hO; (try simp only [Own, Item.Holds, apartI, CellsAt, Nat.reduceAdd, Nat.zero_add, List.mem_cons, List.not_mem_nil, or_false, forall_eq_or_imp, forall_eq, ne_eq, false_imp_iff, implies_true, and_true] at hF))
    go_ret
    exact ⟨ret_int HV.out.symm, Own.base (by first | exact hO | (repeat (first | (with_reducible exact hO) | (with_reducible apply Own.alloc) | (with_reducible apply Own.drew) | ((with_reducible apply Own.set_at); (focus (show _ ≤ _; omega))))))⟩
  · obtain ⟨j, x, hzj, hx⟩ : ∃ (j : Nat) (x : Nt), z = (j : Int) ∧ v[j]? = some x := by
      by_cases hv : voB v = true ∧ 0 ≤ t
      · have hz2 : naL 0 v t = z := by rw [← hz]; unfold naZ; rw [hv.1, decide_eq_true hv.2]; rfl
        rcases naL_is v 0 t (voB_iff.1 hv.1).1 hv.2 with ⟨g, _⟩ | ⟨j, x, g, g2, _⟩
        · omega
        · exact ⟨j, x, by rw [← hz2, g, Nat.zero_add], g2⟩
      · exfalso
        have : naZ v t = -1 := by
          unfold naZ
          rw [if_neg (by simpa using hv)]
        omega
    subst hzj
    have hjl : j < n := by rw [← HN.out]; exact (List.getElem?_eq_some_iff.1 hx).1
    have hjl2 : (j : Int) < (n : Int) := by omega
    obtain ⟨b, off, rfl, hc1, hc2, hb⟩ := hA (by omega)
    obtain ⟨d0, d1, d2, d3, d4, d5⟩ := noteAt HS.out hx
    obtain ⟨y, hy⟩ : ∃ y, keyZ x.s x.a x.o = y := ⟨_, rfl⟩
    have HK := hid (fun W => keyS16 (x := x) hy W)
    have HX := hid hx
    obtain ⟨r, hr⟩ : ∃ r, x.r = r := ⟨_, rfl⟩
    have HV := hid (show sdZ v t = if r = true then -100 else y by rw [HSD.out, sdK_at hx, hr, hy])
    have HR := hid hr
    rw [hr] at d0
    clear hx hz hy hr
    cases r
    · have HV2 := hid (show sdZ v t = y by rw [HV.out]; rfl)
      go_enter Tryd.func58, Tryd.ntmps58
      go_wp2_with (first | ((go_at_call 88; apply own_at hO; (repeat (first | (with_reducible exact hO) | (with_reducible apply Own.alloc) | (with_reducible apply Own.drew) | ((with_reducible apply Own.set_at); (focus (show _ ≤ _; omega))))); have hG := hF; clear hF; clear hO; intro hO; refine own_call hO (fun hB => HNA.out _ hB) ?_; clear hO; intro w1 hO; (try simp only [World.size_alloc1, World.size_drew, Nat.reduceAdd] at hO); (try simp only [upd, updI, List.map_cons, List.map_nil, eq_self, if_true, if_false, reduceIte, Nat.add_eq_left, Nat.left_eq_add, Nat.reduceEqDiff, List.set_cons_zero, List.set_cons_succ, hG] at hO); clear hG; have hF := hO; (try simp only [Own, Item.Holds, apartI, CellsAt, Nat.reduceAdd, Nat.zero_add, List.mem_cons, List.not_mem_nil, or_false, forall_eq_or_imp, forall_eq, ne_eq, false_imp_iff, implies_true, and_true] at hF)); obtain ⟨d0, d1, d2, d3, d4, d5⟩ := noteAt (HS.out.below hO.base) HX.out; rw [HR.out] at d0) | (go_at_call 89; apply own_at hO; (repeat (first | (with_reducible exact hO) | (with_reducible apply Own.alloc) | (with_reducible apply Own.drew) | ((with_reducible apply Own.set_at); (focus (show _ ≤ _; omega))))); have hG := hF; clear hF; clear hO; intro hO; refine own_call hO (fun hB => HK.out _) ?_; clear hO; intro w1 hO; (try simp only [World.size_alloc1, World.size_drew, Nat.reduceAdd] at hO); (try simp only [upd, updI, List.map_cons, List.map_nil, eq_self, if_true, if_false, reduceIte, Nat.add_eq_left, Nat.left_eq_add, Nat.reduceEqDiff, List.set_cons_zero, List.set_cons_succ, hG] at hO); clear hG; have hF := hO; (try simp only [Own, Item.Holds, apartI, CellsAt, Nat.reduceAdd, Nat.zero_add, List.mem_cons, List.not_mem_nil, or_false, forall_eq_or_imp, forall_eq, ne_eq, false_imp_iff, implies_true, and_true] at hF)))
      go_ret
      exact ⟨ret_int HV2.out.symm, Own.base (by first | exact hO | (repeat (first | (with_reducible exact hO) | (with_reducible apply Own.alloc) | (with_reducible apply Own.drew) | ((with_reducible apply Own.set_at); (focus (show _ ≤ _; omega))))))⟩
    · have HV2 := hid (show sdZ v t = -100 by rw [HV.out]; rfl)
      go_enter Tryd.func58, Tryd.ntmps58
      go_wp2_with ((go_at_call 88; apply own_at hO; (repeat (first | (with_reducible exact hO) | (with_reducible apply Own.alloc) | (with_reducible apply Own.drew) | ((with_reducible apply Own.set_at); (focus (show _ ≤ _; omega))))); have hG := hF; clear hF; clear hO; intro hO; refine own_call hO (fun hB => HNA.out _ hB) ?_; clear hO; intro w1 hO; (try simp only [World.size_alloc1, World.size_drew, Nat.reduceAdd] at hO); (try simp only [upd, updI, List.map_cons, List.map_nil, eq_self, if_true, if_false, reduceIte, Nat.add_eq_left, Nat.left_eq_add, Nat.reduceEqDiff, List.set_cons_zero, List.set_cons_succ, hG] at hO); clear hG; have hF := hO; (try simp only [Own, Item.Holds, apartI, CellsAt, Nat.reduceAdd, Nat.zero_add, List.mem_cons, List.not_mem_nil, or_false, forall_eq_or_imp, forall_eq, ne_eq, false_imp_iff, implies_true, and_true] at hF)); obtain ⟨d0, d1, d2, d3, d4, d5⟩ := noteAt (HS.out.below hO.base) HX.out; rw [HR.out] at d0)
      go_ret
      exact ⟨ret_int HV2.out.symm, Own.base (by first | exact hO | (repeat (first | (with_reducible exact hO) | (with_reducible apply Own.alloc) | (with_reducible apply Own.drew) | ((with_reducible apply Own.set_at); (focus (show _ ≤ _; omega))))))⟩
theorem skyS_is {va : Value} {v : List Nt} {n : Nat} {t z : Int} {w : World} (hl : v.length = n) (hs : SlAt w va n 6 (vcC v)) (hn : n ≤ 1048576) (ht : t ≤ 9223372036854775807) (hz : sdZ v t = z) (W : World) (hW : Below w.heap.size w W) :
    Calls Tryd.prog 58 #[va, .int .i64 t] W fun e w' => e = .returned (.int .i64 z) ∧ Below W.heap.size W w' := by
  subst hl hz; exact skyS_any va v t W (hs.below hW) hn ht
theorem sd_bd {v : List Nt} {t : Int} : -100 ≤ sdZ v t ∧ sdZ v t ≤ 300 := by
  unfold sdZ sdK
  split
  · omega
  · split
    · rename_i x _
      split
      · omega
      · unfold keyZ
        split
        · rename_i h
          obtain ⟨h1, h2, h3⟩ := pvB_iff.1 h
          have := natZ_bd (p := 7 * x.o + x.s) (by omega)
          omega
        · omega
    · omega

set_option maxRecDepth 20000 in
set_option maxHeartbeats 8000000 in
theorem mfS_any (va vb : Value) (a b : List Nt) (w : World) (ha : SlAt w va a.length 6 (vcC a)) (hb : SlAt w vb b.length 6 (vcC b)) (hn : a.length ≤ 1048576) (hm : b.length ≤ 1048576) :
    Calls Tryd.prog 25 #[va, vb] w fun e w' => e = .returned (.int .i64 (mfZ a b)) ∧ Below w.heap.size w w' := by
  have hO := Own.start w
  have hF := True.intro
  obtain ⟨A, ca, rfl, nb, _⟩ := ha.open
  obtain ⟨A', cb, rfl, mb, _⟩ := hb.open
  obtain ⟨u, hu⟩ : ∃ u, mtL a b = u := ⟨_, rfl⟩
  obtain ⟨k, hk⟩ : ∃ k, u.length = k := ⟨_, rfl⟩
  have hk9 : k ≤ 46080 := by rw [← hk, ← hu]; exact mt_len0 a b
  have HU := hid (show ∀ t ∈ u, 0 ≤ t ∧ t < 46081 from fun t ht => by
    rw [← hu] at ht
    obtain ⟨h1, h2, h3, h4, _⟩ := mt_mem ht
    have g1 := sum_all16 h1
    have g2 := sum_all16 h2
    unfold moZ at h4
    omega)
  have HZ := hid (show mfZ a b = mfF a b u by unfold mfZ; rw [hu])
  have HK := hid hk
  obtain ⟨n, hnl⟩ : ∃ n, a.length = n := ⟨_, rfl⟩
  obtain ⟨m, hml⟩ : ∃ n, b.length = n := ⟨_, rfl⟩
  rw [hnl] at ha hn nb ⊢
  rw [hml] at hb hm mb ⊢
  have HMT := hid (fun W (hW : Below w.heap.size w W) => (mtS_C w).is hnl hml hn hm hu hk _ _ W hW (ha.below hW) (hb.below hW))
  have HKA := hid (fun (t z : Int) (ht : t ≤ 9223372036854775807) (h : sdZ a t = z) W (hW : Below w.heap.size w W) => skyS_is hnl ha hn ht h W hW)
  have HKB := hid (fun (t z : Int) (ht : t ≤ 9223372036854775807) (h : sdZ b t = z) W (hW : Below w.heap.size w W) => skyS_is hml hb hm ht h W hW)
  clear ha hb hnl hml hu hk
  go_enter Tryd.func25, Tryd.ntmps25
  go_wp2_with ((go_at_call 57; apply own_at hO; (repeat (first | (with_reducible exact hO) | (with_reducible apply Own.alloc) | (with_reducible apply Own.drew) | ((with_reducible apply Own.set_at); (focus (show _ ≤ _; omega))))); have hG := hF; clear hF; clear hO; intro hO; refine own_call_row hO (fun hB => HMT.out _ hB) ?_; clear hO; intro v w1 hO; (try simp only [World.size_alloc1, World.size_drew, Nat.reduceAdd] at hO); (try simp only [upd, updI, List.map_cons, List.map_nil, eq_self, if_true, if_false, reduceIte, Nat.add_eq_left, Nat.left_eq_add, Nat.reduceEqDiff, List.set_cons_zero, List.set_cons_succ, hG] at hO); clear hG; have hF := hO; (try simp only [Own, Item.Holds, apartI, CellsAt, Nat.reduceAdd, Nat.zero_add, List.mem_cons, List.not_mem_nil, or_false, forall_eq_or_imp, forall_eq, ne_eq, false_imp_iff, implies_true, and_true] at hF)); obtain ⟨A9, c9, hv9⟩ := (SlAt.of_row hO.1.1).form; subst hv9)
  go_loopw [6] (fun s wr => ∃ i : Nat, i ≤ k ∧ s = .int .i64 i ∧ Hid (mfF a b (u.drop i) = mfF a b u) ∧ Own w.heap.size (Below w.heap.size w) wr [.row 3 1 (.slice A9 k c9) k (intC u)]) (fun s _ => k - (intOf s).toNat)
  case atStart => exact ⟨0, by omega, rfl, by rw [List.drop_zero]; exact rfl, hO⟩
  case round =>
    clear hO
    obtain ⟨i, hi, rfl, hp, hO⟩ := hrel
    by_cases he : i = k
    · subst he
      have HV := hid (show mfZ a b = -1 by
        rw [HZ.out, ← hp.out, List.drop_of_length_le (by have := HK.out; omega)]; rfl)
      go_wp2_with fail
      go_ret
      exact ⟨ret_int HV.out.symm, hO.base⟩
    · have hil : i < k := by omega
      have hil2 : (i : Int) < (k : Int) := by omega
      have hi9 : (0 : Int) ≤ (i : Int) := by omega
      obtain ⟨q9, cap9, hv9, hq9, hq8⟩ := hO.row_open (by omega)
      cases hv9
      have hq7 : c9 ≤ 9223372036854775807 := by unfold maxLen at hq8; omega
      clear hq8
      obtain ⟨t, ht⟩ : ∃ t, u[i]? = some t := ⟨_, List.getElem?_eq_getElem (by have := HK.out; omega)⟩
      have e0 := hO.row_cell (intC_get ht)
      have HT := hid (intC_get ht)
      have htb := HU.out t (List.mem_of_getElem? ht)
      obtain ⟨x, hx⟩ : ∃ x, sdZ a t = x := ⟨_, rfl⟩
      obtain ⟨y, hy⟩ : ∃ y, sdZ b t = y := ⟨_, rfl⟩
      have bx := sd_bd (v := a) (t := t)
      have by9 := sd_bd (v := b) (t := t)
      rw [hx] at bx
      rw [hy] at by9
      have HKa := hid (HKA.out t x (by omega) hx)
      have HKb := hid (HKB.out t y (by omega) hy)
      have HD := hid (show u.drop i = t :: u.drop (i + 1) by
        obtain ⟨h1, rfl⟩ := List.getElem?_eq_some_iff.1 ht
        exact List.drop_eq_getElem_cons h1)
      have HDK := hid (show mfF a b (t :: u.drop (i + 1)) = if dkB x y = true then t else mfF a b (u.drop (i + 1)) by rw [mfF, hx, hy])
      have w1 : IntKind.i64.wrap (x - y) = x - y := IntWalk.i64_in _ (by omega)
      have w2 : IntKind.i64.wrap (y - x) = y - x := IntWalk.i64_in _ (by omega)
      obtain ⟨e, he9⟩ : ∃ e, x - y = e := ⟨_, rfl⟩
      obtain ⟨e', he8⟩ : ∃ e, y - x = e := ⟨_, rfl⟩
      have HEE := hid (show e' = -e by omega)
      rw [he9] at w1
      rw [he8] at w2
      have HXY := hid (And.intro he9 he8)
      have HDB := hid (show dkB x y = (decide (-100 < x) && decide (-100 < y) && dsB16 ((max e e') % 12)) by unfold dkB; rw [he9, he8])
      have hF := True.intro
      clear he ht hx hy
      by_cases c : -100 < x ∧ -100 < y
      · obtain ⟨c1, c2⟩ := c
        rcases Int.le_total e' e with hee | hee
        · have h0 : 0 ≤ e := by omega
          obtain ⟨d, hd⟩ : ∃ d, e.tmod 12 = d := ⟨_, rfl⟩
          have hd2 := Int.tmod_eq_emod_of_nonneg h0 (b := 12)
          rw [hd] at hd2
          have HDW := hid (show dkB x y = dsB16 d by rw [HDB.out, decide_eq_true c1, decide_eq_true c2, Int.max_eq_left hee, ← hd2]; rfl)
          have wd : IntKind.i64.wrap d = d := IntWalk.i64_in _ (by omega)
          rcases (show d = 0 ∨ d = 1 ∨ d = 2 ∨ d = 3 ∨ d = 4 ∨ d = 5 ∨ d = 6 ∨ d = 7 ∨ d = 8 ∨ d = 9 ∨ d = 10 ∨ d = 11 by omega) with rfl | rfl | rfl | rfl | rfl | rfl | rfl | rfl | rfl | rfl | rfl | rfl
          all_goals
            clear hd2
            have hF := True.intro
            have hF := hO; (try simp only [Own, Item.Holds, apartI, CellsAt, Nat.reduceAdd, Nat.zero_add, List.mem_cons, List.not_mem_nil, or_false, forall_eq_or_imp, forall_eq, ne_eq, false_imp_iff, implies_true, and_true] at hF)
            go_wp2_with (first | ((with_reducible (show Calls _ _ #[.slice A n ca, _] _ _)); (go_at_call 58; apply own_at hO; (repeat (first | (with_reducible exact hO) | (with_reducible apply Own.alloc) | (with_reducible apply Own.drew) | ((with_reducible apply Own.set_at); (focus (show _ ≤ _; omega))))); have hG := hF; clear hF; clear hO; intro hO; refine own_call hO (fun hB => HKa.out _ hB) ?_; clear hO; intro wka hO; (try simp only [World.size_alloc1, World.size_drew, Nat.reduceAdd] at hO); (try simp only [upd, updI, List.map_cons, List.map_nil, eq_self, if_true, if_false, reduceIte, Nat.add_eq_left, Nat.left_eq_add, Nat.reduceEqDiff, List.set_cons_zero, List.set_cons_succ, hG] at hO); clear hG; have hF := hO; (try simp only [Own, Item.Holds, apartI, CellsAt, Nat.reduceAdd, Nat.zero_add, List.mem_cons, List.not_mem_nil, or_false, forall_eq_or_imp, forall_eq, ne_eq, false_imp_iff, implies_true, and_true] at hF)); have e0 := hO.row_cell HT.out) | ((with_reducible (show Calls _ _ #[.slice A' m cb, _] _ _)); (go_at_call 58; apply own_at hO; (repeat (first | (with_reducible exact hO) | (with_reducible apply Own.alloc) | (with_reducible apply Own.drew) | ((with_reducible apply Own.set_at); (focus (show _ ≤ _; omega))))); have hG := hF; clear hF; clear hO; intro hO; refine own_call hO (fun hB => HKb.out _ hB) ?_; clear hO; intro wkb hO; (try simp only [World.size_alloc1, World.size_drew, Nat.reduceAdd] at hO); (try simp only [upd, updI, List.map_cons, List.map_nil, eq_self, if_true, if_false, reduceIte, Nat.add_eq_left, Nat.left_eq_add, Nat.reduceEqDiff, List.set_cons_zero, List.set_cons_succ, hG] at hO); clear hG; have hF := hO; (try simp only [Own, Item.Holds, apartI, CellsAt, Nat.reduceAdd, Nat.zero_add, List.mem_cons, List.not_mem_nil, or_false, forall_eq_or_imp, forall_eq, ne_eq, false_imp_iff, implies_true, and_true] at hF)); have e0 := hO.row_cell HT.out))
            first
            | (go_ret; exact ⟨ret_int (show t = mfZ a b by rw [HZ.out, ← hp.out, HD.out, HDK.out, if_pos (by rw [HDW.out]; rfl)]), hO.base⟩)
            | (go_roundw
               case rel => exact ⟨i + 1, by omega, by go_num, by rw [← hp.out, HD.out, HDK.out, if_neg (by rw [HDW.out]; decide)]; exact rfl, hO⟩
               case measure => simp [intOf]; omega)
        · have h0 : 0 ≤ e' := by have := HEE.out; omega
          obtain ⟨d, hd⟩ : ∃ d, e'.tmod 12 = d := ⟨_, rfl⟩
          have hd2 := Int.tmod_eq_emod_of_nonneg h0 (b := 12)
          rw [hd] at hd2
          have HDW := hid (show dkB x y = dsB16 d by rw [HDB.out, decide_eq_true c1, decide_eq_true c2, Int.max_eq_right hee, ← hd2]; rfl)
          have wd : IntKind.i64.wrap d = d := IntWalk.i64_in _ (by omega)
          by_cases hee2 : e = e'
          · have he0 : e' = 0 := by have := HEE.out; omega
            subst he0
            subst hee2
            have hd3 : d = 0 := by rw [← hd]; rfl
            subst hd3
            clear hd2
            have hF := True.intro
            have hF := hO; (try simp only [Own, Item.Holds, apartI, CellsAt, Nat.reduceAdd, Nat.zero_add, List.mem_cons, List.not_mem_nil, or_false, forall_eq_or_imp, forall_eq, ne_eq, false_imp_iff, implies_true, and_true] at hF)
            go_wp2_with (first | ((with_reducible (show Calls _ _ #[.slice A n ca, _] _ _)); (go_at_call 58; apply own_at hO; (repeat (first | (with_reducible exact hO) | (with_reducible apply Own.alloc) | (with_reducible apply Own.drew) | ((with_reducible apply Own.set_at); (focus (show _ ≤ _; omega))))); have hG := hF; clear hF; clear hO; intro hO; refine own_call hO (fun hB => HKa.out _ hB) ?_; clear hO; intro wka hO; (try simp only [World.size_alloc1, World.size_drew, Nat.reduceAdd] at hO); (try simp only [upd, updI, List.map_cons, List.map_nil, eq_self, if_true, if_false, reduceIte, Nat.add_eq_left, Nat.left_eq_add, Nat.reduceEqDiff, List.set_cons_zero, List.set_cons_succ, hG] at hO); clear hG; have hF := hO; (try simp only [Own, Item.Holds, apartI, CellsAt, Nat.reduceAdd, Nat.zero_add, List.mem_cons, List.not_mem_nil, or_false, forall_eq_or_imp, forall_eq, ne_eq, false_imp_iff, implies_true, and_true] at hF)); have e0 := hO.row_cell HT.out) | ((with_reducible (show Calls _ _ #[.slice A' m cb, _] _ _)); (go_at_call 58; apply own_at hO; (repeat (first | (with_reducible exact hO) | (with_reducible apply Own.alloc) | (with_reducible apply Own.drew) | ((with_reducible apply Own.set_at); (focus (show _ ≤ _; omega))))); have hG := hF; clear hF; clear hO; intro hO; refine own_call hO (fun hB => HKb.out _ hB) ?_; clear hO; intro wkb hO; (try simp only [World.size_alloc1, World.size_drew, Nat.reduceAdd] at hO); (try simp only [upd, updI, List.map_cons, List.map_nil, eq_self, if_true, if_false, reduceIte, Nat.add_eq_left, Nat.left_eq_add, Nat.reduceEqDiff, List.set_cons_zero, List.set_cons_succ, hG] at hO); clear hG; have hF := hO; (try simp only [Own, Item.Holds, apartI, CellsAt, Nat.reduceAdd, Nat.zero_add, List.mem_cons, List.not_mem_nil, or_false, forall_eq_or_imp, forall_eq, ne_eq, false_imp_iff, implies_true, and_true] at hF)); have e0 := hO.row_cell HT.out))
            go_roundw
            case rel => exact ⟨i + 1, by omega, by go_num, by rw [← hp.out, HD.out, HDK.out, if_neg (by rw [HDW.out]; decide)]; exact rfl, hO⟩
            case measure => simp [intOf]; omega
          · have hlt9 : ¬ e' ≤ e := by omega
            rcases (show d = 0 ∨ d = 1 ∨ d = 2 ∨ d = 3 ∨ d = 4 ∨ d = 5 ∨ d = 6 ∨ d = 7 ∨ d = 8 ∨ d = 9 ∨ d = 10 ∨ d = 11 by omega) with rfl | rfl | rfl | rfl | rfl | rfl | rfl | rfl | rfl | rfl | rfl | rfl
            all_goals
              clear hd2
              have hF := True.intro
              have hF := hO; (try simp only [Own, Item.Holds, apartI, CellsAt, Nat.reduceAdd, Nat.zero_add, List.mem_cons, List.not_mem_nil, or_false, forall_eq_or_imp, forall_eq, ne_eq, false_imp_iff, implies_true, and_true] at hF)
              go_wp2_with (first | ((with_reducible (show Calls _ _ #[.slice A n ca, _] _ _)); (go_at_call 58; apply own_at hO; (repeat (first | (with_reducible exact hO) | (with_reducible apply Own.alloc) | (with_reducible apply Own.drew) | ((with_reducible apply Own.set_at); (focus (show _ ≤ _; omega))))); have hG := hF; clear hF; clear hO; intro hO; refine own_call hO (fun hB => HKa.out _ hB) ?_; clear hO; intro wka hO; (try simp only [World.size_alloc1, World.size_drew, Nat.reduceAdd] at hO); (try simp only [upd, updI, List.map_cons, List.map_nil, eq_self, if_true, if_false, reduceIte, Nat.add_eq_left, Nat.left_eq_add, Nat.reduceEqDiff, List.set_cons_zero, List.set_cons_succ, hG] at hO); clear hG; have hF := hO; (try simp only [Own, Item.Holds, apartI, CellsAt, Nat.reduceAdd, Nat.zero_add, List.mem_cons, List.not_mem_nil, or_false, forall_eq_or_imp, forall_eq, ne_eq, false_imp_iff, implies_true, and_true] at hF)); have e0 := hO.row_cell HT.out) | ((with_reducible (show Calls _ _ #[.slice A' m cb, _] _ _)); (go_at_call 58; apply own_at hO; (repeat (first | (with_reducible exact hO) | (with_reducible apply Own.alloc) | (with_reducible apply Own.drew) | ((with_reducible apply Own.set_at); (focus (show _ ≤ _; omega))))); have hG := hF; clear hF; clear hO; intro hO; refine own_call hO (fun hB => HKb.out _ hB) ?_; clear hO; intro wkb hO; (try simp only [World.size_alloc1, World.size_drew, Nat.reduceAdd] at hO); (try simp only [upd, updI, List.map_cons, List.map_nil, eq_self, if_true, if_false, reduceIte, Nat.add_eq_left, Nat.left_eq_add, Nat.reduceEqDiff, List.set_cons_zero, List.set_cons_succ, hG] at hO); clear hG; have hF := hO; (try simp only [Own, Item.Holds, apartI, CellsAt, Nat.reduceAdd, Nat.zero_add, List.mem_cons, List.not_mem_nil, or_false, forall_eq_or_imp, forall_eq, ne_eq, false_imp_iff, implies_true, and_true] at hF)); have e0 := hO.row_cell HT.out))
              first
              | (go_ret; exact ⟨ret_int (show t = mfZ a b by rw [HZ.out, ← hp.out, HD.out, HDK.out, if_pos (by rw [HDW.out]; rfl)]), hO.base⟩)
              | (go_roundw
                 case rel => exact ⟨i + 1, by omega, by go_num, by rw [← hp.out, HD.out, HDK.out, if_neg (by rw [HDW.out]; decide)]; exact rfl, hO⟩
                 case measure => simp [intOf]; omega)
      · have HDW := hid (show dkB x y = false by
          rw [HDB.out]
          by_cases c1 : -100 < x
          · rw [decide_eq_false (show ¬ -100 < y from fun h => c ⟨c1, h⟩), Bool.and_false, Bool.false_and]
          · rw [decide_eq_false c1, Bool.false_and, Bool.false_and])
        by_cases c1 : -100 < x
        · have c2 : ¬ -100 < y := fun h => c ⟨c1, h⟩
          rcases Int.le_total e' e with hee | hee
          all_goals
            clear c
            have hF := True.intro
            have hF := hO; (try simp only [Own, Item.Holds, apartI, CellsAt, Nat.reduceAdd, Nat.zero_add, List.mem_cons, List.not_mem_nil, or_false, forall_eq_or_imp, forall_eq, ne_eq, false_imp_iff, implies_true, and_true] at hF)
            go_wp2_with (first | ((with_reducible (show Calls _ _ #[.slice A n ca, _] _ _)); (go_at_call 58; apply own_at hO; (repeat (first | (with_reducible exact hO) | (with_reducible apply Own.alloc) | (with_reducible apply Own.drew) | ((with_reducible apply Own.set_at); (focus (show _ ≤ _; omega))))); have hG := hF; clear hF; clear hO; intro hO; refine own_call hO (fun hB => HKa.out _ hB) ?_; clear hO; intro wka hO; (try simp only [World.size_alloc1, World.size_drew, Nat.reduceAdd] at hO); (try simp only [upd, updI, List.map_cons, List.map_nil, eq_self, if_true, if_false, reduceIte, Nat.add_eq_left, Nat.left_eq_add, Nat.reduceEqDiff, List.set_cons_zero, List.set_cons_succ, hG] at hO); clear hG; have hF := hO; (try simp only [Own, Item.Holds, apartI, CellsAt, Nat.reduceAdd, Nat.zero_add, List.mem_cons, List.not_mem_nil, or_false, forall_eq_or_imp, forall_eq, ne_eq, false_imp_iff, implies_true, and_true] at hF)); have e0 := hO.row_cell HT.out) | ((with_reducible (show Calls _ _ #[.slice A' m cb, _] _ _)); (go_at_call 58; apply own_at hO; (repeat (first | (with_reducible exact hO) | (with_reducible apply Own.alloc) | (with_reducible apply Own.drew) | ((with_reducible apply Own.set_at); (focus (show _ ≤ _; omega))))); have hG := hF; clear hF; clear hO; intro hO; refine own_call hO (fun hB => HKb.out _ hB) ?_; clear hO; intro wkb hO; (try simp only [World.size_alloc1, World.size_drew, Nat.reduceAdd] at hO); (try simp only [upd, updI, List.map_cons, List.map_nil, eq_self, if_true, if_false, reduceIte, Nat.add_eq_left, Nat.left_eq_add, Nat.reduceEqDiff, List.set_cons_zero, List.set_cons_succ, hG] at hO); clear hG; have hF := hO; (try simp only [Own, Item.Holds, apartI, CellsAt, Nat.reduceAdd, Nat.zero_add, List.mem_cons, List.not_mem_nil, or_false, forall_eq_or_imp, forall_eq, ne_eq, false_imp_iff, implies_true, and_true] at hF)); have e0 := hO.row_cell HT.out))
            all_goals
              go_roundw
              case rel => exact ⟨i + 1, by omega, by go_num, by rw [← hp.out, HD.out, HDK.out, if_neg (by rw [HDW.out]; decide)]; exact rfl, hO⟩
              case measure => simp [intOf]; omega
        · clear c
          have hF := True.intro
          have hF := hO; (try simp only [Own, Item.Holds, apartI, CellsAt, Nat.reduceAdd, Nat.zero_add, List.mem_cons, List.not_mem_nil, or_false, forall_eq_or_imp, forall_eq, ne_eq, false_imp_iff, implies_true, and_true] at hF)
          go_wp2_with (first | ((with_reducible (show Calls _ _ #[.slice A n ca, _] _ _)); (go_at_call 58; apply own_at hO; (repeat (first | (with_reducible exact hO) | (with_reducible apply Own.alloc) | (with_reducible apply Own.drew) | ((with_reducible apply Own.set_at); (focus (show _ ≤ _; omega))))); have hG := hF; clear hF; clear hO; intro hO; refine own_call hO (fun hB => HKa.out _ hB) ?_; clear hO; intro wka hO; (try simp only [World.size_alloc1, World.size_drew, Nat.reduceAdd] at hO); (try simp only [upd, updI, List.map_cons, List.map_nil, eq_self, if_true, if_false, reduceIte, Nat.add_eq_left, Nat.left_eq_add, Nat.reduceEqDiff, List.set_cons_zero, List.set_cons_succ, hG] at hO); clear hG; have hF := hO; (try simp only [Own, Item.Holds, apartI, CellsAt, Nat.reduceAdd, Nat.zero_add, List.mem_cons, List.not_mem_nil, or_false, forall_eq_or_imp, forall_eq, ne_eq, false_imp_iff, implies_true, and_true] at hF)); have e0 := hO.row_cell HT.out) | ((with_reducible (show Calls _ _ #[.slice A' m cb, _] _ _)); (go_at_call 58; apply own_at hO; (repeat (first | (with_reducible exact hO) | (with_reducible apply Own.alloc) | (with_reducible apply Own.drew) | ((with_reducible apply Own.set_at); (focus (show _ ≤ _; omega))))); have hG := hF; clear hF; clear hO; intro hO; refine own_call hO (fun hB => HKb.out _ hB) ?_; clear hO; intro wkb hO; (try simp only [World.size_alloc1, World.size_drew, Nat.reduceAdd] at hO); (try simp only [upd, updI, List.map_cons, List.map_nil, eq_self, if_true, if_false, reduceIte, Nat.add_eq_left, Nat.left_eq_add, Nat.reduceEqDiff, List.set_cons_zero, List.set_cons_succ, hG] at hO); clear hG; have hF := hO; (try simp only [Own, Item.Holds, apartI, CellsAt, Nat.reduceAdd, Nat.zero_add, List.mem_cons, List.not_mem_nil, or_false, forall_eq_or_imp, forall_eq, ne_eq, false_imp_iff, implies_true, and_true] at hF)); have e0 := hO.row_cell HT.out))
          all_goals
            go_roundw
            case rel => exact ⟨i + 1, by omega, by go_num, by rw [← hp.out, HD.out, HDK.out, if_neg (by rw [HDW.out]; decide)]; exact rfl, hO⟩
            case measure => simp [intOf]; omega
theorem mfS_C (w : World) : CMf 25 w := fun va vb a b W _ h1 h2 hn hm => mfS_any va vb a b W h1 h2 hn hm
end Go.Proofs.YtmkhpafcgobfhaaDoor
