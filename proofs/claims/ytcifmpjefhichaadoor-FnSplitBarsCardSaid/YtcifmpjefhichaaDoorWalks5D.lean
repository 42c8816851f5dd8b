/- Chapter 5 in the program: joined ties. -/
import Derived.Test.YtcifmpjefhichaaDoorWalks5C
import Derived.Test.YtcifmpjefhichaaDoorPure5
import Derived.Test.YtcifmpjefhichaaDoorOwnMake
namespace Go.Proofs.YtcifmpjefhichaaDoor
set_option linter.unusedSimpArgs false
set_option linter.unusedVariables false
open Go.RowKit

theorem slAt_lt {w : World} {b off cap n k size : Nat} {xs : List Value} (h : SlAt w (.slice (some ⟨b, off, none⟩) n cap) k size xs) : b < w.heap.size := by
  rcases h.2 with ⟨h1, _⟩ | ⟨b', off', cap', h1, _, _, h4, _⟩
  · cases h1
  · cases h1; exact h4
theorem gpN_go {y u : Nt} {l : List Nt} {k : Nat} (hd : l.drop k = u :: l.drop (k + 1)) (h : y.y = true ∧ y.t + u.t ≤ 768) : gpN y (l.drop k) = gpN (mergeN y u) (l.drop (k + 1)) + 1 := by rw [hd, gpN_yes h]
theorem gpN_end {y u : Nt} {l : List Nt} {k : Nat} (hd : l.drop k = u :: l.drop (k + 1)) (h : ¬ y.t + u.t ≤ 768) : gpN y (l.drop k) = 0 := by rw [hd, gpN_no (fun e => h e.2)]

set_option maxHeartbeats 8000000 in
theorem jpI_any (b off c : Nat) (x : Nt) (l : List Nt) (n : Nat) (w : World) (hnl : (x :: l).length = n) (ha : SlAt w (.slice (some ⟨b, off, none⟩) n c) n 6 (vcC (x :: l))) (hn : n ≤ 60) (hnc : n ≤ c) (hv : tieB (x :: l) = true) :
    Calls Tryd.prog 56 #[.slice (some ⟨b, off, none⟩) n c] w fun e w' => e = .returned (.slice (some ⟨b, off, none⟩) (gpN x l + 1 : Nat) c) ∧ Below w.heap.size w w' := by
  have hO := Own.start w
  have hF := True.intro
  have HA := hid ha
  have HN := hid hnl
  have HV := hid hv
  have HX := hid (show (x :: l)[0]? = some x from rfl)
  have h0 : 0 < n := by rw [← hnl]; simp
  have h0' : (0 : Int) < n := by omega
  have hln : l.length + 1 = n := by rw [← hnl]; simp
  have hx1 := nv_pos (tieB_head hv)
  obtain ⟨d0, d1, d2, d3, d4, d5⟩ := noteAt HA.out (j := 0) (x := x) rfl
  simp only [Nat.zero_mul, Nat.add_zero] at d0 d1 d2 d3 d4 d5
  clear ha hnl hv
  go_enter Tryd.func56, Tryd.ntmps56
  go_wp2
  apply own_code hO
  (repeat (first | (with_reducible exact hO) | (with_reducible apply Own.alloc) | (with_reducible apply Own.drew) | ((with_reducible apply Own.set_at); (focus (show _ ≤ _; omega)))))
  have hG := hF; clear hF; clear hO; intro hO
  (try simp only [World.size_alloc1, World.size_drew, Nat.reduceAdd] at hO); (try simp only [upd, updI, List.map_cons, List.map_nil, eq_self, if_true, if_false, reduceIte, Nat.add_eq_left, Nat.left_eq_add, Nat.reduceEqDiff, List.set_cons_zero, List.set_cons_succ, hG] at hO); clear hG
  refine region_own (X := fun _ => True) [] (by kernel_rfl) (hO) (trivial) (by first | exact XStab.true | exact XStab.rd | exact XStab.rdIf) ?_
  clear hO
  refine Sim.takeP (i := 0) (d := some 5) (v := ?_) rfl rfl (by kernel_rfl) (by kernel_rfl) (by kernel_rfl) (fun _ _ _ h => h) (by first | exact XStab.true | exact XStab.rd | exact XStab.rdIf) ?_ ?_
  rotate_left
  · first | refine Or.inl ⟨by rfl, fun w => ?_⟩ | (refine Or.inr ⟨by rfl, ?_⟩; with_reducible rfl)
    first | done | (go_simp; all_goals with_reducible rfl)
  try simp only [Act.put, List.setIfInBounds_toArray, List.set_cons_zero, List.set_cons_succ]
  refine Sim.takeP (i := 1) (d := some 6) (v := ?_) rfl rfl (by kernel_rfl) (by kernel_rfl) (by kernel_rfl) (fun _ _ _ h => h) (by first | exact XStab.true | exact XStab.rd | exact XStab.rdIf) ?_ ?_
  rotate_left
  · first | refine Or.inl ⟨by rfl, fun w => ?_⟩ | (refine Or.inr ⟨by rfl, ?_⟩; with_reducible rfl)
    first | done | (go_simp; all_goals with_reducible rfl)
  try simp only [Act.put, List.setIfInBounds_toArray, List.set_cons_zero, List.set_cons_succ]
  refine Sim.takeP (i := 2) (d := some 7) (v := ?_) rfl rfl (by kernel_rfl) (by kernel_rfl) (by kernel_rfl) (fun _ _ _ h => h) (by first | exact XStab.true | exact XStab.rd | exact XStab.rdIf) ?_ ?_
  rotate_left
  · first | refine Or.inl ⟨by rfl, fun w => ?_⟩ | (refine Or.inr ⟨by rfl, ?_⟩; with_reducible rfl)
    first | done | (go_simp; all_goals with_reducible rfl)
  try simp only [Act.put, List.setIfInBounds_toArray, List.set_cons_zero, List.set_cons_succ]
  refine Sim.take (i := 3) (d := some 8) (v := ?_) rfl rfl (by kernel_rfl) (by kernel_rfl) (by kernel_rfl) (by kernel_rfl) (fun _ _ _ h => h) (by first | exact XStab.true | exact XStab.rd | exact XStab.rdIf) ?_ ?_
  rotate_left
  · first | refine Or.inl ⟨by rfl, fun w hO => ?_⟩ | (refine Or.inr ⟨by rfl, ?_⟩; with_reducible rfl)
    first | done | (have hF := hO; (try simp only [Own, Item.Holds, apartI, CellsAt, Nat.reduceAdd, Nat.zero_add, List.mem_cons, List.not_mem_nil, or_false, forall_eq_or_imp, forall_eq, ne_eq, false_imp_iff, implies_true, and_true] at hF); ((have ⟨d0, d1, d2, d3, d4, d5⟩ := noteAt (HA.out.below hO.base) HX.out; simp only [Nat.zero_mul, Nat.add_zero] at d0 d1 d2 d3 d4 d5)); refine Out.same ?_; go_simp; all_goals with_reducible rfl)
  try simp only [Act.put, List.setIfInBounds_toArray, List.set_cons_zero, List.set_cons_succ]
  refine Sim.takeP (i := 4) (d := some 3) (v := ?_) rfl rfl (by kernel_rfl) (by kernel_rfl) (by kernel_rfl) (fun _ _ _ h => h) (by first | exact XStab.true | exact XStab.rd | exact XStab.rdIf) ?_ ?_
  rotate_left
  · first | refine Or.inl ⟨by rfl, fun w => ?_⟩ | (refine Or.inr ⟨by rfl, ?_⟩; with_reducible rfl)
    first | done | (go_simp; all_goals with_reducible rfl)
  try simp only [Act.put, List.setIfInBounds_toArray, List.set_cons_zero, List.set_cons_succ]
  refine Sim.takeP (i := 5) (d := some 4) (v := ?_) rfl rfl (by kernel_rfl) (by kernel_rfl) (by kernel_rfl) (fun _ _ _ h => h) (by first | exact XStab.true | exact XStab.rd | exact XStab.rdIf) ?_ ?_
  rotate_left
  · first | refine Or.inl ⟨by rfl, fun w => ?_⟩ | (refine Or.inr ⟨by rfl, ?_⟩; with_reducible rfl)
    first | done | (go_simp; all_goals with_reducible rfl)
  try simp only [Act.put, List.setIfInBounds_toArray, List.set_cons_zero, List.set_cons_succ]
  refine Sim.done (by kernel_rfl) (fun w1 hO hX => ?_) _
  (try simp only [World.size_alloc1, World.size_drew, Nat.reduceAdd] at hO); (try simp only [upd, updI, List.map_cons, List.map_nil, eq_self, if_true, if_false, reduceIte, Nat.add_eq_left, Nat.left_eq_add, Nat.reduceEqDiff, List.set_cons_zero, List.set_cons_succ] at hO)
  have hF := hO; (try simp only [Own, Item.Holds, apartI, CellsAt, Nat.reduceAdd, Nat.zero_add, List.mem_cons, List.not_mem_nil, or_false, forall_eq_or_imp, forall_eq, ne_eq, false_imp_iff, implies_true, and_true] at hF)
  clear d0 d1 d2 d3 d4 d5
  go_wp2_with fail
  go_loopw [3, 4] (fun s t wr => ∃ (k : Nat) (y z : Nt), k < n ∧ s = .int .i64 ((k : Int) + 1) ∧ t = .int .i64 y.t ∧ Hid (gpN x l = k + gpN y (l.drop k)) ∧ Hid ((x :: l)[k]? = some z) ∧ z.y = y.y ∧ (1 ≤ y.t ∧ y.t ≤ 768) ∧ Hid (tieB (y :: l.drop k) = true) ∧ Own w.heap.size (Below w.heap.size w) wr []) (fun s _ _ => n - (intOf s).toNat)
  case atStart => exact ⟨0, x, x, h0, rfl, rfl, (show gpN x l = 0 + gpN x (l.drop 0) by simp), HX, rfl, hx1, HV, hO⟩
  case round =>
    clear hO hF hx1
    obtain ⟨k, y, z, hk, rfl, rfl, HG, HZ, hzy, yb, HT, hO⟩ := hrel
    have hF := True.intro
    have hk2 : (k : Int) < n := by omega
    have k0 : (0 : Int) ≤ (k : Int) := by omega
    have k1 : (0 : Int) ≤ (k : Int) + 1 := by omega
    have k2 : (k : Int) + 1 ≤ n := by omega
    have k3 : (k : Int) + 1 ≤ c := by omega
    have w1 : IntKind.i64.wrap ((k : Int) + 1 - 1) = (k : Int) := by rw [show (k : Int) + 1 - 1 = k by omega]; exact IntWalk.i64_in _ (by omega)
    obtain ⟨d0, d1, d2, d3, d4, d5⟩ := noteAt (HA.out.below hO.base) HZ.out
    cases hy : y.y
    · rw [hzy, hy] at d5
      have HE := hid (show gpN x l + 1 = k + 1 by rw [HG.out, gpN_free hy])
      clear hzy hy
      go_wp2
      go_ret
      rw [HE.out]
      exact ⟨rfl, hO.base⟩
    · rw [hzy, hy] at d5
      obtain ⟨u, hu⟩ : ∃ u, l[k]? = some u := by
        cases hd : l.drop k with
        | nil =>
          have := HT.out
          rw [hd] at this
          rw [(tieB_one.1 this).2] at hy
          cases hy
        | cons u m =>
          refine ⟨u, ?_⟩
          have := congrArg (fun (q : List Nt) => q[0]?) hd
          simpa using this
      have hd := drop_at hu
      have hkl := (List.getElem?_eq_some_iff.1 hu).1
      have hk3 : k + 1 < n := by omega
      have hk4 : (k : Int) + 1 < n := by omega
      have HU := hid (show (x :: l)[k + 1]? = some u by simpa using hu)
      obtain ⟨g0, g1, g2, g3, g4, g5⟩ := noteAt (HA.out.below hO.base) HU.out
      have ub : 1 ≤ u.t ∧ u.t ≤ 768 := by
        have := HT.out
        rw [hd] at this
        exact nv_pos (tieB_head (tieB_tail this))
      have w2 : IntKind.i64.wrap (y.t + u.t) = y.t + u.t := IntWalk.i64_in _ (by omega)
      by_cases hs : y.t + u.t ≤ 768
      · have HE := hid (show gpN x l = (k + 1) + gpN (mergeN y u) (l.drop (k + 1)) by rw [HG.out, gpN_go hd ⟨hy, hs⟩]; omega)
        have HT2 := hid (show tieB (mergeN y u :: l.drop (k + 1)) = true by
          have := HT.out
          rw [hd] at this
          exact merge_tie this hy hs)
        clear hzy hy hu hd hkl
        go_wp2
        go_roundw
        case rel => exact ⟨k + 1, mergeN y u, u, by omega, by go_num, rfl, HE, HU, rfl, by simp only [mergeN]; omega, HT2, hO⟩
        case measure => simp [intOf]; omega
      · have HE := hid (show gpN x l + 1 = k + 1 by rw [HG.out, gpN_end hd hs])
        have hs2 : decide (y.t + u.t ≤ 768) = false := by simpa using hs
        clear hzy hy hu hd hkl
        go_wp2
        go_ret
        rw [HE.out]
        exact ⟨rfl, hO.base⟩

set_option maxHeartbeats 4000000 in
theorem onI_any (b off c : Nat) (v : List Nt) (z : Nt) (n : Nat) (w : World) (hnl : v.length = n + 1) (ha : SlAt w (.slice (some ⟨b, off, none⟩) (n + 1 : Nat) c) (n + 1) 6 (vcC v)) (hn : n ≤ 60) (hz : v[n]? = some z) (hb : ∀ j, 0 ≤ sumT (v.take j) ∧ sumT (v.take j) ≤ 46080) (hp : ∀ (j : Nat) (x : Nt), v[j]? = some x → 0 ≤ x.t ∧ x.t ≤ 768) :
    Calls Tryd.prog 57 #[.slice (some ⟨b, off, none⟩) (n + 1 : Nat) c] w fun e w' => e = .returned (.agg #[.bool z.r, .int .i64 z.s, .int .i64 z.a, .int .i64 z.o, .int .i64 (sumT v), .bool z.y]) ∧ Below w.heap.size w w' := by
  have hO := Own.start w
  have hF := True.intro
  have HP := hid (fun W (hW : Below w.heap.size w W) => ptI_any _ v _ W hnl (ha.below hW) hb hp)
  obtain ⟨d0, d1, d2, d3, d4, d5⟩ := noteAt ha hz
  have hbs : b < w.heap.size := slAt_lt ha
  have n0 : (0 : Int) ≤ n := by omega
  have n1 : (n : Int) < (n : Int) + 1 := by omega
  have w1 : IntKind.i64.wrap ((n : Int) + 1 - 1) = (n : Int) := by rw [show (n : Int) + 1 - 1 = n by omega]; exact IntWalk.i64_in _ (by omega)
  clear ha hz hb hp hnl
  push_cast at HP ⊢
  go_enter Tryd.func57, Tryd.ntmps57
  go_wp2_with (go_at_call 60; apply own_at hO; (repeat (first | (with_reducible exact hO) | (with_reducible apply Own.alloc) | (with_reducible apply Own.drew) | ((with_reducible apply Own.set_at); (focus (show _ ≤ _; omega))))); have hG := hF; clear hF; clear hO; intro hO; refine own_call hO (fun hB => HP.out _ hB) ?_; clear hO; intro w1 hO; (try simp only [World.size_alloc1, World.size_drew, Nat.reduceAdd] at hO); (try simp only [upd, updI, List.map_cons, List.map_nil, eq_self, if_true, if_false, reduceIte, Nat.add_eq_left, Nat.left_eq_add, Nat.reduceEqDiff, List.set_cons_zero, List.set_cons_succ, hG] at hO); clear hG; have hF := hO; (try simp only [Own, Item.Holds, apartI, CellsAt, Nat.reduceAdd, Nat.zero_add, List.mem_cons, List.not_mem_nil, or_false, forall_eq_or_imp, forall_eq, ne_eq, false_imp_iff, implies_true, and_true] at hF))
  apply own_end hO
  (repeat (first | (with_reducible exact hO) | (with_reducible apply Own.alloc) | (with_reducible apply Own.drew) | ((with_reducible apply Own.set_at); (focus (show _ ≤ _; omega)))))
  have hG := hF; clear hF; clear hO; intro hO
  refine own_ret (v := .agg #[.bool z.r, .int .i64 z.s, .int .i64 z.a, .int .i64 z.o, .int .i64 (sumT v), .bool z.y]) hO ?_ rfl (fun hO => ⟨rfl, hO.base⟩)
  clear hO; intro w1 hO
  (try simp only [World.size_alloc1, World.size_drew, Nat.reduceAdd] at hO); (try simp only [upd, updI, List.map_cons, List.map_nil, eq_self, if_true, if_false, reduceIte, Nat.add_eq_left, Nat.left_eq_add, Nat.reduceEqDiff, List.set_cons_zero, List.set_cons_succ, hG] at hO); clear hG
  have hF := hO; (try simp only [Own, Item.Holds, apartI, CellsAt, Nat.reduceAdd, Nat.zero_add, List.mem_cons, List.not_mem_nil, or_false, forall_eq_or_imp, forall_eq, ne_eq, false_imp_iff, implies_true, and_true] at hF)
  simp [results, Tryd.results57, go_sem, hF]

def sliceLen : Value → Nat
  | .slice _ n _ => n
  | _ => 0
theorem bd_take {v : List Nt} {m : Nat} (h : ∀ j, 0 ≤ sumT (v.take j) ∧ sumT (v.take j) ≤ 46080) (j : Nat) : 0 ≤ sumT ((v.take m).take j) ∧ sumT ((v.take m).take j) ≤ 46080 := by
  rw [List.take_take]; exact h _
/-- The slice that is left behind j notes. -/
def restAt (A : Option Addr) (n c j : Nat) (t : Value) : Prop := (j < n ∧ ∃ b off, A = some ⟨b, off, none⟩ ∧ t = .slice (some ⟨b, off + j * 6, none⟩) (n - j) (c - j)) ∨ (j = n ∧ ∃ A' c', t = .slice A' 0 c')

set_option maxHeartbeats 8000000 in
theorem jtI_yes (va : Value) (v : List Nt) (n : Nat) (w : World) (hnl : v.length = n) (ha : SlAt w va n 6 (vcC v)) (hv : voB v = true) :
    Calls Tryd.prog 30 #[va] w (RowOut 46 6 (joL v).length (vcC (joL v)) w) := by
  have hO := Own.start w
  have hF := True.intro
  obtain ⟨i0, hi, hz0, hz1, hz2⟩ := info_parts infoN
  obtain ⟨A, c, rfl, nb, hA⟩ := ha.open
  have HA := hid ha
  have HN := hid hnl
  have hn60 : n ≤ 60 := by have := (voB_iff.1 hv).2; omega
  have HV := hid (voI_is hnl ha (by omega) hv)
  have HVO := hid hv
  clear ha hnl hv
  go_enter Tryd.func30, Tryd.ntmps30
  go_wp2_with (first | (go_at_call 31; apply own_at hO; (repeat (first | (with_reducible exact hO) | (with_reducible apply Own.alloc) | (with_reducible apply Own.drew) | ((with_reducible apply Own.set_at); (focus (show _ ≤ _; omega))))); have hG := hF; clear hF; clear hO; intro hO; refine own_call hO (fun hB => HV.out _ hB) ?_; clear hO; intro w1 hO; (try simp only [World.size_alloc1, World.size_drew, Nat.reduceAdd] at hO); (try simp only [upd, updI, List.map_cons, List.map_nil, eq_self, if_true, if_false, reduceIte, Nat.add_eq_left, Nat.left_eq_add, Nat.reduceEqDiff, List.set_cons_zero, List.set_cons_succ, hG] at hO); clear hG; have hF := hO; (try simp only [Own, Item.Holds, apartI, CellsAt, Nat.reduceAdd, Nat.zero_add, List.mem_cons, List.not_mem_nil, or_false, forall_eq_or_imp, forall_eq, ne_eq, false_imp_iff, implies_true, and_true] at hF)) | (at_make; go_loud (refine wpList_make_cap rfl _ _ 37 rfl 46 i0 (.agg #[.bool false, .int .i64 0, .int .i64 0, .int .i64 0, .int .i64 0, .bool false]) 6 48 Tryd.underlying37 hi hz0 hz1 hz2 _ _ _ n rfl rfl rfl (by omega) (by unfold maxLen; omega) hO ?_); clear hO hF; intro qt w2 hO; have hF := True.intro))
  go_loopw [3, 4] (fun u t wr => ∃ (j : Nat) (out : List Nt), j ≤ n ∧ restAt A n c j t ∧ Hid (joL v = out ++ joL (v.drop j)) ∧ out.length ≤ j ∧ Own w.heap.size (Below w.heap.size w) wr [.row 46 6 u out.length (vcC out)]) (fun _ t _ => sliceLen t)
  case atStart =>
    refine ⟨0, [], by omega, ?_, (show joL v = [] ++ joL (v.drop 0) from rfl), by simp, hO⟩
    by_cases h0 : n = 0
    · subst h0; exact Or.inr ⟨rfl, A, c, rfl⟩
    · obtain ⟨b, off, rfl, _⟩ := hA (by omega)
      exact Or.inl ⟨by omega, b, off, rfl, by simp⟩
  case round =>
    clear hO hF
    obtain ⟨j, out, hj, hrest, hJ, hol, hO⟩ := hrel
    have hF := True.intro
    rcases hrest with ⟨hlt, b, off, rfl, rfl⟩ | ⟨rfl, A', c', rfl⟩
    · obtain ⟨b2, off2, he, hc1, hc2, hb⟩ := hA (by omega)
      cases he
      have hs := slAt_drop HA.out (m := j) (by omega)
      obtain ⟨x, hx⟩ : ∃ x, v[j]? = some x := ⟨_, List.getElem?_eq_getElem (by have := HN.out; omega)⟩
      have hd := drop_at hx
      obtain ⟨l, hl⟩ : ∃ l, v.drop (j + 1) = l := ⟨_, rfl⟩
      rw [hl] at hd
      have hvd := voB_drop HVO.out j
      have hbd := sumT_bd hvd
      have hpp : ∀ (i : Nat) (u : Nt), (v.drop j)[i]? = some u → 0 ≤ u.t ∧ u.t ≤ 768 := fun i u hu => by have := vo_at hvd hu; omega
      have htd := (voB_iff.1 hvd).1
      have hlen : (x :: l).length = n - j := by rw [← hd, List.length_drop, HN.out]
      rw [hd] at hs hbd hpp htd
      obtain ⟨m, hm⟩ : ∃ m, n - j = m := ⟨_, rfl⟩
      obtain ⟨cc, hcc⟩ : ∃ cc, c - j = cc := ⟨_, rfl⟩
      obtain ⟨o, ho⟩ : ∃ o, off + j * 6 = o := ⟨_, rfl⟩
      rw [hm, hcc, ho] at hs
      rw [hm] at hlen
      rw [hm, hcc, ho]
      have HJP := hid (fun W (hW : Below w.heap.size w W) => jpI_any b o cc x l m W hlen (hs.below hW) (by omega) (by omega) htd)
      obtain ⟨z, hz1, hz2⟩ := gp_last l x htd
      have hg := gpN_len l x
      have hjo := joF_gp l x
      obtain ⟨g, hgg⟩ : ∃ g, gpN x l = g := ⟨_, rfl⟩
      rw [hgg] at HJP hz1 hz2 hg hjo
      have hlm : l.length + 1 = m := by simpa using hlen
      have hts := slAt_take (m := g + 1) hs (by omega)
      have htl : ((x :: l).take (g + 1)).length = g + 1 := by rw [List.length_take]; omega
      have HON := hid (fun W (hW : Below w.heap.size w W) => onI_any b o cc ((x :: l).take (g + 1)) z g W htl (hts.below hW) (by omega) (by rw [List.getElem?_take, if_pos (by omega)]; exact hz1) (bd_take hbd) (fun i u hu => hpp i u (by
        rw [List.getElem?_take] at hu
        split at hu
        · exact hu
        · cases hu)))
      obtain ⟨s, hss⟩ : ∃ s, sumT ((x :: l).take (g + 1)) = s := ⟨_, rfl⟩
      rw [hss] at HON hz2
      have HJ2 := hid (show joL v = (out ++ [{ z with t := s }]) ++ joL (v.drop (j + (g + 1))) by
        rw [hJ.out, hd]
        show out ++ joF x l = _
        rw [hjo, hz2, List.append_assoc]
        congr 3
        rw [← hl, List.drop_drop]
        congr 1; omega)
      obtain ⟨k, hk⟩ : ∃ k, out.length = k := ⟨_, rfl⟩
      rw [hk] at hO hol
      have HK := hid hk
      have m0 : (0 : Int) < m := by omega
      have g0 : (0 : Int) ≤ (g : Int) + 1 := by omega
      have g1 : (g : Int) + 1 ≤ m := by omega
      have g2 : (g : Int) + 1 ≤ cc := by omega
      have HR := hid (show ∀ (v' : Value) (w3 : World) (t : Value), restAt (some ⟨b, off, none⟩) n c (j + (g + 1)) t → Own w.heap.size (Below w.heap.size w) w3 [.row 46 6 v' (k + 1) (vcC out ++ [.bool z.r, .int .i64 z.s, .int .i64 z.a, .int .i64 z.o, .int .i64 s, .bool z.y])] →
          ∃ (j : Nat) (out : List Nt), j ≤ n ∧ restAt (some ⟨b, off, none⟩) n c j t ∧ Hid (joL v = out ++ joL (v.drop j)) ∧ out.length ≤ j ∧ Own w.heap.size (Below w.heap.size w) w3 [.row 46 6 v' out.length (vcC out)] from
        fun v' w3 t ht hO => ⟨j + (g + 1), out ++ [{ z with t := s }], by omega, ht, HJ2, by rw [List.length_append, hk]; simp; omega, by rw [List.length_append, hk, ← vcC_snoc]; exact hO⟩)
      have HM := hid (show n - j = m ∧ c - j = cc ∧ off + j * 6 = o ∧ j < n ∧ n ≤ c from ⟨hm, hcc, ho, hlt, hc1⟩)
      have hkb : k ≤ 60 := by omega
      clear hs hts hx hd hl hvd hbd hpp htd hlen hz1 hz2 hjo hgg htl hss hk hlm hm hcc ho hA hj hlt hc1 hc2 hn60 hol hg
      by_cases hend : g + 1 = m
      · subst hend
        have HQ := hid (show j + (g + 1) = n by have := HM.out; omega)
        by_cases hce : cc = g + 1
        · subst hce
          go_wp2_with (first | (go_at_call 56; apply own_at hO; (repeat (first | (with_reducible exact hO) | (with_reducible apply Own.alloc) | (with_reducible apply Own.drew) | ((with_reducible apply Own.set_at); (focus (show _ ≤ _; omega))))); have hG := hF; clear hF; clear hO; intro hO; refine own_call hO (fun hB => HJP.out _ hB) ?_; clear hO; intro w1 hO; (try simp only [World.size_alloc1, World.size_drew, Nat.reduceAdd] at hO); (try simp only [upd, updI, List.map_cons, List.map_nil, eq_self, if_true, if_false, reduceIte, Nat.add_eq_left, Nat.left_eq_add, Nat.reduceEqDiff, List.set_cons_zero, List.set_cons_succ, hG] at hO); clear hG; have hF := hO; (try simp only [Own, Item.Holds, apartI, CellsAt, Nat.reduceAdd, Nat.zero_add, List.mem_cons, List.not_mem_nil, or_false, forall_eq_or_imp, forall_eq, ne_eq, false_imp_iff, implies_true, and_true] at hF)) | (go_at_call 57; apply own_at hO; (repeat (first | (with_reducible exact hO) | (with_reducible apply Own.alloc) | (with_reducible apply Own.drew) | ((with_reducible apply Own.set_at); (focus (show _ ≤ _; omega))))); have hG := hF; clear hF; clear hO; intro hO; refine own_call hO (fun hB => HON.out _ hB) ?_; clear hO; intro w1 hO; (try simp only [World.size_alloc1, World.size_drew, Nat.reduceAdd] at hO); (try simp only [upd, updI, List.map_cons, List.map_nil, eq_self, if_true, if_false, reduceIte, Nat.add_eq_left, Nat.left_eq_add, Nat.reduceEqDiff, List.set_cons_zero, List.set_cons_succ, hG] at hO); clear hG; have hF := hO; (try simp only [Own, Item.Holds, apartI, CellsAt, Nat.reduceAdd, Nat.zero_add, List.mem_cons, List.not_mem_nil, or_false, forall_eq_or_imp, forall_eq, ne_eq, false_imp_iff, implies_true, and_true] at hF)) | (at_builtin; apply own_list hO; (repeat (first | (with_reducible exact hO) | (with_reducible apply Own.alloc) | (with_reducible apply Own.drew) | ((with_reducible apply Own.set_at); (focus (show _ ≤ _; omega))))); have hG := hF; clear hF; clear hO; intro hO; (try simp only [World.size_alloc1, World.size_drew, Nat.reduceAdd] at hO); (try simp only [upd, updI, List.map_cons, List.map_nil, eq_self, if_true, if_false, reduceIte, Nat.add_eq_left, Nat.left_eq_add, Nat.reduceEqDiff, List.set_cons_zero, List.set_cons_succ, hG] at hO); clear hG; (try simp only [World.size_setCell] at hO); have hF := hO; (try simp only [Own, Item.Holds, apartI, CellsAt, Nat.reduceAdd, Nat.zero_add, List.mem_cons, List.not_mem_nil, or_false, forall_eq_or_imp, forall_eq, ne_eq, false_imp_iff, implies_true, and_true] at hF); refine wpList_append_item rfl _ _ 37 rfl 46 i0 (.agg #[.bool false, .int .i64 0, .int .i64 0, .int .i64 0, .int .i64 0, .bool false]) 6 48 Tryd.underlying37 hi hz0 hz1 hz2 rfl (by decide) rfl rfl hO rfl one6g (by unfold maxLen; omega) (by omega) ?_; clear hO hF; intro v' w3 hO _; have hF := True.intro))
          go_roundw
          case rel => exact HR.out _ _ _ (Or.inr ⟨HQ.out, _, _, rfl⟩) hO
          case measure => simp [sliceLen]
        · go_wp2_with (first | (go_at_call 56; apply own_at hO; (repeat (first | (with_reducible exact hO) | (with_reducible apply Own.alloc) | (with_reducible apply Own.drew) | ((with_reducible apply Own.set_at); (focus (show _ ≤ _; omega))))); have hG := hF; clear hF; clear hO; intro hO; refine own_call hO (fun hB => HJP.out _ hB) ?_; clear hO; intro w1 hO; (try simp only [World.size_alloc1, World.size_drew, Nat.reduceAdd] at hO); (try simp only [upd, updI, List.map_cons, List.map_nil, eq_self, if_true, if_false, reduceIte, Nat.add_eq_left, Nat.left_eq_add, Nat.reduceEqDiff, List.set_cons_zero, List.set_cons_succ, hG] at hO); clear hG; have hF := hO; (try simp only [Own, Item.Holds, apartI, CellsAt, Nat.reduceAdd, Nat.zero_add, List.mem_cons, List.not_mem_nil, or_false, forall_eq_or_imp, forall_eq, ne_eq, false_imp_iff, implies_true, and_true] at hF)) | (go_at_call 57; apply own_at hO; (repeat (first | (with_reducible exact hO) | (with_reducible apply Own.alloc) | (with_reducible apply Own.drew) | ((with_reducible apply Own.set_at); (focus (show _ ≤ _; omega))))); have hG := hF; clear hF; clear hO; intro hO; refine own_call hO (fun hB => HON.out _ hB) ?_; clear hO; intro w1 hO; (try simp only [World.size_alloc1, World.size_drew, Nat.reduceAdd] at hO); (try simp only [upd, updI, List.map_cons, List.map_nil, eq_self, if_true, if_false, reduceIte, Nat.add_eq_left, Nat.left_eq_add, Nat.reduceEqDiff, List.set_cons_zero, List.set_cons_succ, hG] at hO); clear hG; have hF := hO; (try simp only [Own, Item.Holds, apartI, CellsAt, Nat.reduceAdd, Nat.zero_add, List.mem_cons, List.not_mem_nil, or_false, forall_eq_or_imp, forall_eq, ne_eq, false_imp_iff, implies_true, and_true] at hF)) | (at_builtin; apply own_list hO; (repeat (first | (with_reducible exact hO) | (with_reducible apply Own.alloc) | (with_reducible apply Own.drew) | ((with_reducible apply Own.set_at); (focus (show _ ≤ _; omega))))); have hG := hF; clear hF; clear hO; intro hO; (try simp only [World.size_alloc1, World.size_drew, Nat.reduceAdd] at hO); (try simp only [upd, updI, List.map_cons, List.map_nil, eq_self, if_true, if_false, reduceIte, Nat.add_eq_left, Nat.left_eq_add, Nat.reduceEqDiff, List.set_cons_zero, List.set_cons_succ, hG] at hO); clear hG; (try simp only [World.size_setCell] at hO); have hF := hO; (try simp only [Own, Item.Holds, apartI, CellsAt, Nat.reduceAdd, Nat.zero_add, List.mem_cons, List.not_mem_nil, or_false, forall_eq_or_imp, forall_eq, ne_eq, false_imp_iff, implies_true, and_true] at hF); refine wpList_append_item rfl _ _ 37 rfl 46 i0 (.agg #[.bool false, .int .i64 0, .int .i64 0, .int .i64 0, .int .i64 0, .bool false]) 6 48 Tryd.underlying37 hi hz0 hz1 hz2 rfl (by decide) rfl rfl hO rfl one6g (by unfold maxLen; omega) (by omega) ?_; clear hO hF; intro v' w3 hO _; have hF := True.intro))
          go_roundw
          case rel => exact HR.out _ _ _ (Or.inr ⟨HQ.out, _, _, rfl⟩) hO
          case measure => simp [sliceLen]
      · have q7 : ¬ cc = g + 1 := by have := HM.out; omega
        have HQ := hid (show j + (g + 1) < n ∧ Value.slice (some ⟨b, o + (g + 1) * 6, none⟩) (m - (g + 1)) (cc - (g + 1)) = .slice (some ⟨b, off + (j + (g + 1)) * 6, none⟩) (n - (j + (g + 1))) (c - (j + (g + 1))) by
          have := HM.out
          refine ⟨by omega, ?_⟩
          rw [show o + (g + 1) * 6 = off + (j + (g + 1)) * 6 by omega, show m - (g + 1) = n - (j + (g + 1)) by omega, show cc - (g + 1) = c - (j + (g + 1)) by omega])
        have hmg : m - (g + 1) < m := by omega
        clear hend
        go_wp2_with (first | (go_at_call 56; apply own_at hO; (repeat (first | (with_reducible exact hO) | (with_reducible apply Own.alloc) | (with_reducible apply Own.drew) | ((with_reducible apply Own.set_at); (focus (show _ ≤ _; omega))))); have hG := hF; clear hF; clear hO; intro hO; refine own_call hO (fun hB => HJP.out _ hB) ?_; clear hO; intro w1 hO; (try simp only [World.size_alloc1, World.size_drew, Nat.reduceAdd] at hO); (try simp only [upd, updI, List.map_cons, List.map_nil, eq_self, if_true, if_false, reduceIte, Nat.add_eq_left, Nat.left_eq_add, Nat.reduceEqDiff, List.set_cons_zero, List.set_cons_succ, hG] at hO); clear hG; have hF := hO; (try simp only [Own, Item.Holds, apartI, CellsAt, Nat.reduceAdd, Nat.zero_add, List.mem_cons, List.not_mem_nil, or_false, forall_eq_or_imp, forall_eq, ne_eq, false_imp_iff, implies_true, and_true] at hF)) | (go_at_call 57; apply own_at hO; (repeat (first | (with_reducible exact hO) | (with_reducible apply Own.alloc) | (with_reducible apply Own.drew) | ((with_reducible apply Own.set_at); (focus (show _ ≤ _; omega))))); have hG := hF; clear hF; clear hO; intro hO; refine own_call hO (fun hB => HON.out _ hB) ?_; clear hO; intro w1 hO; (try simp only [World.size_alloc1, World.size_drew, Nat.reduceAdd] at hO); (try simp only [upd, updI, List.map_cons, List.map_nil, eq_self, if_true, if_false, reduceIte, Nat.add_eq_left, Nat.left_eq_add, Nat.reduceEqDiff, List.set_cons_zero, List.set_cons_succ, hG] at hO); clear hG; have hF := hO; (try simp only [Own, Item.Holds, apartI, CellsAt, Nat.reduceAdd, Nat.zero_add, List.mem_cons, List.not_mem_nil, or_false, forall_eq_or_imp, forall_eq, ne_eq, false_imp_iff, implies_true, and_true] at hF)) | (at_builtin; apply own_list hO; (repeat (first | (with_reducible exact hO) | (with_reducible apply Own.alloc) | (with_reducible apply Own.drew) | ((with_reducible apply Own.set_at); (focus (show _ ≤ _; omega))))); have hG := hF; clear hF; clear hO; intro hO; (try simp only [World.size_alloc1, World.size_drew, Nat.reduceAdd] at hO); (try simp only [upd, updI, List.map_cons, List.map_nil, eq_self, if_true, if_false, reduceIte, Nat.add_eq_left, Nat.left_eq_add, Nat.reduceEqDiff, List.set_cons_zero, List.set_cons_succ, hG] at hO); clear hG; (try simp only [World.size_setCell] at hO); have hF := hO; (try simp only [Own, Item.Holds, apartI, CellsAt, Nat.reduceAdd, Nat.zero_add, List.mem_cons, List.not_mem_nil, or_false, forall_eq_or_imp, forall_eq, ne_eq, false_imp_iff, implies_true, and_true] at hF); refine wpList_append_item rfl _ _ 37 rfl 46 i0 (.agg #[.bool false, .int .i64 0, .int .i64 0, .int .i64 0, .int .i64 0, .bool false]) 6 48 Tryd.underlying37 hi hz0 hz1 hz2 rfl (by decide) rfl rfl hO rfl one6g (by unfold maxLen; omega) (by omega) ?_; clear hO hF; intro v' w3 hO _; have hF := True.intro))
        go_roundw
        case rel => exact HR.out _ _ _ (Or.inl ⟨HQ.out.1, b, off, rfl, HQ.out.2⟩) hO
        case measure => simp only [sliceLen]; omega
    · have HE := hid (show out = joL v by rw [hJ.out, ← HN.out, List.drop_length]; simp [joL])
      go_wp2_with fail
      go_ret
      rw [← HE.out]
      exact RowOut.mk hO

theorem jtI_no (va : Value) (v : List Nt) (n : Nat) (w : World) (hnl : v.length = n) (hn : n ≤ 1048576) (ha : SlAt w va n 6 (vcC v)) (hv : voB v = false) :
    Calls Tryd.prog 30 #[va] w (RowOut 46 6 0 [] w) := by
  have hO := (Own.start w).nilRow 46 6
  have hF := True.intro
  have HV := hid (voI_is hnl ha hn hv)
  clear ha hnl hv
  go_enter Tryd.func30, Tryd.ntmps30
  go_wp2_with (go_at_call 31; apply own_at hO; (repeat (first | (with_reducible exact hO) | (with_reducible apply Own.alloc) | (with_reducible apply Own.drew) | ((with_reducible apply Own.set_at); (focus (show _ ≤ _; omega))))); have hG := hF; clear hF; clear hO; intro hO; refine own_call hO (fun hB => HV.out _ hB) ?_; clear hO; intro w1 hO; (try simp only [World.size_alloc1, World.size_drew, Nat.reduceAdd] at hO); (try simp only [upd, updI, List.map_cons, List.map_nil, eq_self, if_true, if_false, reduceIte, Nat.add_eq_left, Nat.left_eq_add, Nat.reduceEqDiff, List.set_cons_zero, List.set_cons_succ, hG] at hO); clear hG; have hF := hO; (try simp only [Own, Item.Holds, apartI, CellsAt, Nat.reduceAdd, Nat.zero_add, List.mem_cons, List.not_mem_nil, or_false, forall_eq_or_imp, forall_eq, ne_eq, false_imp_iff, implies_true, and_true] at hF))
  go_ret
  exact RowOut.mk hO

theorem jtI_any (va : Value) (v : List Nt) (w : World) (ha : SlAt w va v.length 6 (vcC v)) (hn : v.length ≤ 1048576) :
    Calls Tryd.prog 30 #[va] w (RowOut 46 6 (jtL v).length (vcC (jtL v)) w) := by
  unfold jtL
  cases hv : voB v
  · exact jtI_no va v _ w rfl hn ha hv
  · exact jtI_yes va v _ w rfl ha hv

theorem jtI_C (w : World) : CRow 30 jtL w := fun va v W _ hs hn => jtI_any va v W hs hn
end Go.Proofs.YtcifmpjefhichaaDoor
