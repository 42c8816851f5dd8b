/- Chapter 14 in the model: cantus, faults of tones and ways. -/
import Derived.Test.YtieoobanpllmgaaDoorWalksPt
import Derived.Lib.SmallJoins
import Derived.Test.YtieoobanpllmgaaDoorWalks3S
import Derived.Test.YtieoobanpllmgaaDoorWalks1
import Derived.Test.YtieoobanpllmgaaDoorPure14
import Derived.Test.YtieoobanpllmgaaDoorRegionD
namespace Go.Proofs.YtieoobanpllmgaaDoor
set_option linter.unusedSimpArgs false
set_option linter.unusedVariables false
set_option maxRecDepth 8000
open Go.RowKit

theorem keyS14 {x : Pt} {z : Int} (h : kyP x = z) (w : World) : Calls Tryd.prog 59 #[.agg #[.int .i64 x.s, .int .i64 x.a, .int .i64 x.o]] w fun e w' => e = .returned (.int .i64 z) ∧ Below w.heap.size w w' := by
  subst h; exact keyS_any x.s x.a x.o w
theorem ikS14 {f : Int} {x : Pt} {b : Bool} (h : ikP f x = b) (w : World) : Calls Tryd.prog 72 #[.int .i64 f, .agg #[.int .i64 x.s, .int .i64 x.a, .int .i64 x.o]] w fun e w' => e = .returned (.bool b) ∧ Below w.heap.size w w' := by
  subst h; exact ikS_any f x.s x.a x.o w
theorem up14 {p : Pt → Bool} {c : List Pt} {j : Nat} {x : Pt} (h : ∀ (i : Nat) (z : Pt), i < j → c[i]? = some z → p z = true) (hx : c[j]? = some x) (hp : p x = true) : ∀ (i : Nat) (z : Pt), i < j + 1 → c[i]? = some z → p z = true := fun i z hi hz => by
  rcases (show i < j ∨ i = j by omega) with h' | rfl
  · exact h i z h' hz
  · rw [hx] at hz; cases hz; exact hp
theorem all14 {p : Pt → Bool} {c : List Pt} {n : Nat} (hn : c.length = n) (h : ∀ (i : Nat) (z : Pt), i < n → c[i]? = some z → p z = true) : ∀ x ∈ c, p x = true := fun x hx => by
  obtain ⟨i, hi, rfl⟩ := List.getElem_of_mem hx
  exact h i _ (by omega) (List.getElem?_eq_getElem hi)

theorem in210 (j : Nat) : (decide (2 ≤ j) && decide (j ≤ 10)) = inB (j : Int) 2 10 := by rw [Bool.eq_iff_iff, inB_iff]; simp; omega

set_option maxRecDepth 8000 in
set_option maxHeartbeats 4000000 in
theorem cvS_any (f : Int) (va : Value) (l : List Pt) (w : World) (hs : SlAt w va l.length 3 (pcC l)) (hn : l.length ≤ 1048576) :
    Calls Tryd.prog 55 #[.int .i64 f, va] w fun e w' => e = .returned (.bool (cvB f l)) ∧ Below w.heap.size w w' := by
  have hO := Own.start w
  have hF := True.intro
  obtain ⟨A, c, rfl, nb, hA⟩ := hs.open
  have HA := hid hs
  clear hs
  obtain ⟨n, hnl⟩ : ∃ n, l.length = n := ⟨_, rfl⟩
  have HN := hid hnl
  rw [hnl] at hn nb hA HA ⊢
  clear hnl
  go_enter Tryd.func55, Tryd.ntmps55
  go_wp2_with fail
  (apply own_code hO; (repeat (first | (with_reducible exact hO) | (with_reducible apply Own.alloc) | (with_reducible apply Own.drew) | ((with_reducible apply Own.set_at); (focus (show _ ≤ _; omega))))); have hG := hF; clear hF; clear hO; intro hO; (try simp only [World.size_alloc1, World.size_drew, Nat.reduceAdd] at hO); (try simp only [upd, updI, List.map_cons, List.map_nil, eq_self, if_true, if_false, reduceIte, Nat.add_eq_left, Nat.left_eq_add, Nat.reduceEqDiff, List.set_cons_zero, List.set_cons_succ, hG] at hO); clear hG; have hF := hO; (try simp only [Own, Item.Holds, apartI, CellsAt, Nat.reduceAdd, Nat.zero_add, List.mem_cons, List.not_mem_nil, or_false, forall_eq_or_imp, forall_eq, ne_eq, false_imp_iff, implies_true, and_true] at hF))
  go_loopw [5] (fun t wr => ∃ j : Nat, j ≤ n ∧ t = .int .i64 j ∧ Hid (∀ (i : Nat) (x : Pt), i < j → l[i]? = some x → ikP f x = true) ∧ Own w.heap.size (Below w.heap.size w) wr []) (fun t _ => n - (intOf t).toNat)
  case atStart => exact ⟨0, by omega, rfl, fun i x h => by omega, hO⟩
  case round =>
    clear hO hF
    obtain ⟨j, hj, rfl, hv, hO⟩ := hrel
    have hF := hO; (try simp only [Own, Item.Holds, apartI, CellsAt, Nat.reduceAdd, Nat.zero_add, List.mem_cons, List.not_mem_nil, or_false, forall_eq_or_imp, forall_eq, ne_eq, false_imp_iff, implies_true, and_true] at hF)
    by_cases he : j = n
    · subst he
      have HV := hid (show cvB f l = (inB (j : Int) 2 10 && inB f (-7) 7) by
        have h1 : l.all (ikP f) = true := List.all_eq_true.2 (all14 HN.out hv.out)
        unfold cvB keyB
        rw [h1, HN.out, in210, Bool.true_and])
      obtain ⟨b1, hb1⟩ : ∃ b, inB (j : Int) 2 10 = b := ⟨_, rfl⟩
      obtain ⟨b2, hb2⟩ : ∃ b, inB f (-7) 7 = b := ⟨_, rfl⟩
      rw [hb1, hb2] at HV
      have H1 := hid (fun W => in_is W hb1)
      have H2 := hid (fun W => in_is W hb2)
      clear hb1 hb2
      cases b1
      · go_wp2_with fail
        (go_at_call 56; apply own_at hO; (repeat (first | (with_reducible exact hO) | (with_reducible apply Own.alloc) | (with_reducible apply Own.drew) | ((with_reducible apply Own.set_at); (focus (show _ ≤ _; omega))))); have hG := hF; clear hF; clear hO; intro hO; refine own_call hO (fun hB => H1.out _) ?_; clear hO; intro w1 hO; (try simp only [World.size_alloc1, World.size_drew, Nat.reduceAdd] at hO); (try simp only [upd, updI, List.map_cons, List.map_nil, eq_self, if_true, if_false, reduceIte, Nat.add_eq_left, Nat.left_eq_add, Nat.reduceEqDiff, List.set_cons_zero, List.set_cons_succ, hG] at hO); clear hG; have hF := hO; (try simp only [Own, Item.Holds, apartI, CellsAt, Nat.reduceAdd, Nat.zero_add, List.mem_cons, List.not_mem_nil, or_false, forall_eq_or_imp, forall_eq, ne_eq, false_imp_iff, implies_true, and_true] at hF))
        go_wp2_with fail
        go_ret
        exact ⟨ret_bool (by rw [HV.out]; rfl), Own.base (by first | exact hO | (repeat (first | (with_reducible exact hO) | (with_reducible apply Own.alloc) | (with_reducible apply Own.drew) | ((with_reducible apply Own.set_at); (focus (show _ ≤ _; omega))))))⟩
      · go_wp2_with fail
        (go_at_call 56; apply own_at hO; (repeat (first | (with_reducible exact hO) | (with_reducible apply Own.alloc) | (with_reducible apply Own.drew) | ((with_reducible apply Own.set_at); (focus (show _ ≤ _; omega))))); have hG := hF; clear hF; clear hO; intro hO; refine own_call hO (fun hB => H1.out _) ?_; clear hO; intro w1 hO; (try simp only [World.size_alloc1, World.size_drew, Nat.reduceAdd] at hO); (try simp only [upd, updI, List.map_cons, List.map_nil, eq_self, if_true, if_false, reduceIte, Nat.add_eq_left, Nat.left_eq_add, Nat.reduceEqDiff, List.set_cons_zero, List.set_cons_succ, hG] at hO); clear hG; have hF := hO; (try simp only [Own, Item.Holds, apartI, CellsAt, Nat.reduceAdd, Nat.zero_add, List.mem_cons, List.not_mem_nil, or_false, forall_eq_or_imp, forall_eq, ne_eq, false_imp_iff, implies_true, and_true] at hF))
        go_wp2_with fail
        (go_at_call 56; apply own_at hO; (repeat (first | (with_reducible exact hO) | (with_reducible apply Own.alloc) | (with_reducible apply Own.drew) | ((with_reducible apply Own.set_at); (focus (show _ ≤ _; omega))))); have hG := hF; clear hF; clear hO; intro hO; refine own_call hO (fun hB => H2.out _) ?_; clear hO; intro w1 hO; (try simp only [World.size_alloc1, World.size_drew, Nat.reduceAdd] at hO); (try simp only [upd, updI, List.map_cons, List.map_nil, eq_self, if_true, if_false, reduceIte, Nat.add_eq_left, Nat.left_eq_add, Nat.reduceEqDiff, List.set_cons_zero, List.set_cons_succ, hG] at hO); clear hG; have hF := hO; (try simp only [Own, Item.Holds, apartI, CellsAt, Nat.reduceAdd, Nat.zero_add, List.mem_cons, List.not_mem_nil, or_false, forall_eq_or_imp, forall_eq, ne_eq, false_imp_iff, implies_true, and_true] at hF))
        go_wp2_with fail
        go_ret
        exact ⟨ret_bool (by rw [HV.out]; rfl), Own.base (by first | exact hO | (repeat (first | (with_reducible exact hO) | (with_reducible apply Own.alloc) | (with_reducible apply Own.drew) | ((with_reducible apply Own.set_at); (focus (show _ ≤ _; omega))))))⟩
    · have hlt : j < n := by omega
      have hlt2 : (j : Int) < n := by omega
      obtain ⟨b, off, rfl, hc1, hc2, hb⟩ := hA (by omega)
      obtain ⟨x, hx⟩ : ∃ x, l[j]? = some x := ⟨_, List.getElem?_eq_getElem (by have := HN.out; omega)⟩
      obtain ⟨d0, d1, d2⟩ := ptAt (HA.out.below hO.base) hx
      have HX := hid hx
      obtain ⟨d, hd⟩ : ∃ b, ikP f x = b := ⟨_, rfl⟩
      have HC := hid (fun W => ikS14 hd W)
      clear he hx
      cases d
      · have HV := hid (cvB_no (List.mem_of_getElem? HX.out) hd)
        clear hd
        go_wp2_with (go_at_call 72; apply own_at hO; (repeat (first | (with_reducible exact hO) | (with_reducible apply Own.alloc) | (with_reducible apply Own.drew) | ((with_reducible apply Own.set_at); (focus (show _ ≤ _; omega))))); have hG := hF; clear hF; clear hO; intro hO; refine own_call hO (fun hB => HC.out _) ?_; clear hO; intro w1 hO; (try simp only [World.size_alloc1, World.size_drew, Nat.reduceAdd] at hO); (try simp only [upd, updI, List.map_cons, List.map_nil, eq_self, if_true, if_false, reduceIte, Nat.add_eq_left, Nat.left_eq_add, Nat.reduceEqDiff, List.set_cons_zero, List.set_cons_succ, hG] at hO); clear hG; have hF := hO; (try simp only [Own, Item.Holds, apartI, CellsAt, Nat.reduceAdd, Nat.zero_add, List.mem_cons, List.not_mem_nil, or_false, forall_eq_or_imp, forall_eq, ne_eq, false_imp_iff, implies_true, and_true] at hF))
        go_ret
        exact ⟨ret_bool (by rw [HV.out]), Own.base (by first | exact hO | (repeat (first | (with_reducible exact hO) | (with_reducible apply Own.alloc) | (with_reducible apply Own.drew) | ((with_reducible apply Own.set_at); (focus (show _ ≤ _; omega))))))⟩
      · have HB := hid (up14 hv.out HX.out hd)
        clear hd
        go_wp2_with (go_at_call 72; apply own_at hO; (repeat (first | (with_reducible exact hO) | (with_reducible apply Own.alloc) | (with_reducible apply Own.drew) | ((with_reducible apply Own.set_at); (focus (show _ ≤ _; omega))))); have hG := hF; clear hF; clear hO; intro hO; refine own_call hO (fun hB => HC.out _) ?_; clear hO; intro w1 hO; (try simp only [World.size_alloc1, World.size_drew, Nat.reduceAdd] at hO); (try simp only [upd, updI, List.map_cons, List.map_nil, eq_self, if_true, if_false, reduceIte, Nat.add_eq_left, Nat.left_eq_add, Nat.reduceEqDiff, List.set_cons_zero, List.set_cons_succ, hG] at hO); clear hG; have hF := hO; (try simp only [Own, Item.Holds, apartI, CellsAt, Nat.reduceAdd, Nat.zero_add, List.mem_cons, List.not_mem_nil, or_false, forall_eq_or_imp, forall_eq, ne_eq, false_imp_iff, implies_true, and_true] at hF))
        go_roundw
        case rel => exact ⟨j + 1, by omega, by go_num, HB.out, (by first | exact hO | exact Own.drop hO)⟩
        case measure => simp [intOf]; omega
theorem cvS_is {f : Int} {va : Value} {l : List Pt} {w : World} {b : Bool} {n : Nat} (hl : l.length = n) (hs : SlAt w va n 3 (pcC l)) (hn : n ≤ 1048576) (hb : cvB f l = b) (W : World) (hW : Below w.heap.size w W) :
    Calls Tryd.prog 55 #[.int .i64 f, va] W fun e w' => e = .returned (.bool b) ∧ Below W.heap.size W w' := by
  subst hl hb; exact cvS_any f va l W (hs.below hW) hn

theorem ky14 {x : Pt} (h : pvP x = true) : -2 ≤ kyP x ∧ kyP x ≤ 109 := key_bd12 h
theorem m12 {m : Int} (h0 : 0 ≤ m) (h1 : m < 12) : m = 0 ∨ m = 1 ∨ m = 2 ∨ m = 3 ∨ m = 4 ∨ m = 5 ∨ m = 6 ∨ m = 7 ∨ m = 8 ∨ m = 9 ∨ m = 10 ∨ m = 11 := by omega
theorem one_key {f : Int} {c p : Pt} {k n : Int} (h : ikP f p = false) : oneZ f c p k n = 1 := by unfold oneZ; rw [if_pos h]
theorem one_far {f : Int} {c p : Pt} {k n d : Int} (h : ikP f p = true) (hd : kyP p - kyP c = d) (h2 : ¬ (0 ≤ d ∧ d ≤ 16)) : oneZ f c p k n = 3 := by
  unfold oneZ; rw [if_neg (by rw [h]; simp), hd, if_pos h2]
theorem one_dis {f : Int} {c p : Pt} {k n d m : Int} (h : ikP f p = true) (hd : kyP p - kyP c = d) (h2 : 0 ≤ d ∧ d ≤ 16) (hm : d % 12 = m) (h3 : dsB m = true) : oneZ f c p k n = 2 := by
  unfold oneZ; rw [if_neg (by rw [h]; simp), hd, if_neg (by omega), hm, if_pos h3]
theorem one_con {f : Int} {c p : Pt} {k n d m : Int} (h : ikP f p = true) (hd : kyP p - kyP c = d) (h2 : 0 ≤ d ∧ d ≤ 16) (hm : d % 12 = m) (h3 : dsB m = false) : oneZ f c p k n = if (k = 0 ∧ m ≠ 0 ∧ m ≠ 7) ∨ (k = n - 1 ∧ m ≠ 0) then 4 else 0 := by
  unfold oneZ; rw [if_neg (by rw [h]; simp), hd, if_neg (by omega), hm, if_neg (by rw [h3]; simp)]

set_option maxRecDepth 20000 in
set_option maxHeartbeats 8000000 in
theorem oneS_any (f : Int) (c p : Pt) (k n : Int) (w : World) (hc : pvP c = true) (hp : pvP p = true) (hk : 0 ≤ k ∧ k ≤ 1048576) (hn : 0 ≤ n ∧ n ≤ 1048576) :
    Calls Tryd.prog 57 #[.int .i64 f, .agg #[.int .i64 c.s, .int .i64 c.a, .int .i64 c.o], .agg #[.int .i64 p.s, .int .i64 p.a, .int .i64 p.o], .int .i64 k, .int .i64 n] w fun e w' => e = .returned (.int .i64 (oneZ f c p k n)) ∧ Below w.heap.size w w' := by
  have hO := Own.start w
  have hF := True.intro
  obtain ⟨zc, hzc⟩ : ∃ z, kyP c = z := ⟨_, rfl⟩
  obtain ⟨zp, hzp⟩ : ∃ z, kyP p = z := ⟨_, rfl⟩
  have b1 := ky14 hc
  have b2 := ky14 hp
  rw [hzc] at b1
  rw [hzp] at b2
  have HK1 := hid (fun W => keyS14 hzc W)
  have HK2 := hid (fun W => keyS14 hzp W)
  obtain ⟨d, hd⟩ : ∃ d, zp - zc = d := ⟨_, rfl⟩
  have HD := hid (show kyP p - kyP c = d by rw [hzc, hzp]; exact hd)
  have wd : IntKind.i64.wrap (zp - zc) = d := by rw [hd]; exact IntWalk.i64_in _ (by omega)
  obtain ⟨b, hb⟩ : ∃ b, ikP f p = b := ⟨_, rfl⟩
  have HB := hid (fun W => ikS14 hb W)
  obtain ⟨g, hg⟩ : ∃ g, inB d 0 16 = g := ⟨_, rfl⟩
  have HG := hid (fun W => in_is W hg)
  have HBB := hid hb
  have HGG := hid hg
  clear hzc hzp b1 b2 hd hb hg hc hp
  go_enter Tryd.func57, Tryd.ntmps57
  go_wp2_with fail
  apply own_code hO
  (repeat (first | (with_reducible exact hO) | (with_reducible apply Own.alloc) | (with_reducible apply Own.drew) | ((with_reducible apply Own.set_at); (focus (show _ ≤ _; omega)))))
  have hG := hF; clear hF; clear hO; intro hO
  (try simp only [World.size_alloc1, World.size_drew, Nat.reduceAdd] at hO); (try simp only [upd, updI, List.map_cons, List.map_nil, eq_self, if_true, if_false, reduceIte, Nat.add_eq_left, Nat.left_eq_add, Nat.reduceEqDiff, List.set_cons_zero, List.set_cons_succ, hG] at hO); clear hG
  refine region_own (X := fun _ => True) [] (by kernel_rfl) (hO) (trivial) (by first | exact XStab.true | exact XStab.rd | exact XStab.rdIf) ?_
  clear hO
  refine Sim.sO (i := 0) (d := some 13) (v := ?_) (hy := ?_) (h := ?_)
  rotate_left
  · first | refine Or.inl ⟨by rfl, fun w hO => ?_⟩ | (refine Or.inr ⟨by rfl, ?_⟩; with_reducible rfl)
    first | done | (have hF := hO; (try simp only [Own, Item.Holds, apartI, CellsAt, Nat.reduceAdd, Nat.zero_add, List.mem_cons, List.not_mem_nil, or_false, forall_eq_or_imp, forall_eq, ne_eq, false_imp_iff, implies_true, and_true] at hF); refine Out.same ?_; go_simp; all_goals with_reducible rfl)
  refine Sim.sO (i := 1) (d := some 14) (v := ?_) (hy := ?_) (h := ?_)
  rotate_left
  · first | refine Or.inl ⟨by rfl, fun w hO => ?_⟩ | (refine Or.inr ⟨by rfl, ?_⟩; with_reducible rfl)
    first | done | (refine Out.call (f := 59) (args := ?_) ?_ ?_; rotate_left; (focus (go_simp; all_goals with_reducible rfl)); exact HK2.out _)
  refine Sim.sO (i := 2) (d := some 15) (v := ?_) (hy := ?_) (h := ?_)
  rotate_left
  · first | refine Or.inl ⟨by rfl, fun w hO => ?_⟩ | (refine Or.inr ⟨by rfl, ?_⟩; with_reducible rfl)
    first | done | (have hF := hO; (try simp only [Own, Item.Holds, apartI, CellsAt, Nat.reduceAdd, Nat.zero_add, List.mem_cons, List.not_mem_nil, or_false, forall_eq_or_imp, forall_eq, ne_eq, false_imp_iff, implies_true, and_true] at hF); refine Out.same ?_; go_simp; all_goals with_reducible rfl)
  refine Sim.sO (i := 3) (d := some 16) (v := ?_) (hy := ?_) (h := ?_)
  rotate_left
  · first | refine Or.inl ⟨by rfl, fun w hO => ?_⟩ | (refine Or.inr ⟨by rfl, ?_⟩; with_reducible rfl)
    first | done | (refine Out.call (f := 59) (args := ?_) ?_ ?_; rotate_left; (focus (go_simp; all_goals with_reducible rfl)); exact HK1.out _)
  refine Sim.sP (i := 4) (d := some 17) (h := ?_)
  refine Sim.sP (i := 5) (d := some 11) (h := ?_)
  refine Sim.done (by kernel_rfl) (fun w1 hO hX => ?_) _
  (try simp only [World.size_alloc1, World.size_drew, Nat.reduceAdd] at hO); (try simp only [upd, updI, List.map_cons, List.map_nil, eq_self, if_true, if_false, reduceIte, Nat.add_eq_left, Nat.left_eq_add, Nat.reduceEqDiff, List.set_cons_zero, List.set_cons_succ] at hO)
  have hF := hO; (try simp only [Own, Item.Holds, apartI, CellsAt, Nat.reduceAdd, Nat.zero_add, List.mem_cons, List.not_mem_nil, or_false, forall_eq_or_imp, forall_eq, ne_eq, false_imp_iff, implies_true, and_true] at hF)
  all_goals
    cases b
    · have HE := hid (one_key (c := c) (k := k) (n := n) HBB.out)
      go_wp2_with (go_at_call 72; apply own_at hO; (repeat (first | (with_reducible exact hO) | (with_reducible apply Own.alloc) | (with_reducible apply Own.drew) | ((with_reducible apply Own.set_at); (focus (show _ ≤ _; omega))))); have hG := hF; clear hF; clear hO; intro hO; refine own_call hO (fun hB => HB.out _) ?_; clear hO; intro w1 hO; (try simp only [World.size_alloc1, World.size_drew, Nat.reduceAdd] at hO); (try simp only [upd, updI, List.map_cons, List.map_nil, eq_self, if_true, if_false, reduceIte, Nat.add_eq_left, Nat.left_eq_add, Nat.reduceEqDiff, List.set_cons_zero, List.set_cons_succ, hG] at hO); clear hG; have hF := hO; (try simp only [Own, Item.Holds, apartI, CellsAt, Nat.reduceAdd, Nat.zero_add, List.mem_cons, List.not_mem_nil, or_false, forall_eq_or_imp, forall_eq, ne_eq, false_imp_iff, implies_true, and_true] at hF))
      go_ret
      exact ⟨ret_int HE.out.symm, Own.base (by first | exact hO | (repeat (first | (with_reducible exact hO) | (with_reducible apply Own.alloc) | (with_reducible apply Own.drew) | ((with_reducible apply Own.set_at); (focus (show _ ≤ _; omega))))))⟩
    · cases g
      · have HE := hid (one_far (k := k) (n := n) HBB.out HD.out (fun h => by have h1 := HGG.out; rw [inB_iff.2 h] at h1; cases h1))
        go_wp2_with fail
        go_wp2_with (go_at_call 72; apply own_at hO; (repeat (first | (with_reducible exact hO) | (with_reducible apply Own.alloc) | (with_reducible apply Own.drew) | ((with_reducible apply Own.set_at); (focus (show _ ≤ _; omega))))); have hG := hF; clear hF; clear hO; intro hO; refine own_call hO (fun hB => HB.out _) ?_; clear hO; intro w1 hO; (try simp only [World.size_alloc1, World.size_drew, Nat.reduceAdd] at hO); (try simp only [upd, updI, List.map_cons, List.map_nil, eq_self, if_true, if_false, reduceIte, Nat.add_eq_left, Nat.left_eq_add, Nat.reduceEqDiff, List.set_cons_zero, List.set_cons_succ, hG] at hO); clear hG; have hF := hO; (try simp only [Own, Item.Holds, apartI, CellsAt, Nat.reduceAdd, Nat.zero_add, List.mem_cons, List.not_mem_nil, or_false, forall_eq_or_imp, forall_eq, ne_eq, false_imp_iff, implies_true, and_true] at hF))
        go_wp2_with (go_at_call 56; apply own_at hO; (repeat (first | (with_reducible exact hO) | (with_reducible apply Own.alloc) | (with_reducible apply Own.drew) | ((with_reducible apply Own.set_at); (focus (show _ ≤ _; omega))))); have hG := hF; clear hF; clear hO; intro hO; refine own_call hO (fun hB => HG.out _) ?_; clear hO; intro w1 hO; (try simp only [World.size_alloc1, World.size_drew, Nat.reduceAdd] at hO); (try simp only [upd, updI, List.map_cons, List.map_nil, eq_self, if_true, if_false, reduceIte, Nat.add_eq_left, Nat.left_eq_add, Nat.reduceEqDiff, List.set_cons_zero, List.set_cons_succ, hG] at hO); clear hG; have hF := hO; (try simp only [Own, Item.Holds, apartI, CellsAt, Nat.reduceAdd, Nat.zero_add, List.mem_cons, List.not_mem_nil, or_false, forall_eq_or_imp, forall_eq, ne_eq, false_imp_iff, implies_true, and_true] at hF))
        go_ret
        exact ⟨ret_int HE.out.symm, Own.base (by first | exact hO | (repeat (first | (with_reducible exact hO) | (with_reducible apply Own.alloc) | (with_reducible apply Own.drew) | ((with_reducible apply Own.set_at); (focus (show _ ≤ _; omega))))))⟩
      · have hd2 := inB_iff.1 HGG.out
        obtain ⟨m, hm⟩ : ∃ m, d % 12 = m := ⟨_, rfl⟩
        have hm2 : d.tmod 12 = m := by rw [Int.tmod_eq_emod_of_nonneg hd2.1]; exact hm
        have hm0 : 0 ≤ m := by omega
        have hm1 : m < 12 := by omega
        have HDD := hid hd2
        have HM := hid hm
        clear hd2
        have wn : IntKind.i64.wrap (n - 1) = n - 1 := IntWalk.i64_in _ (by omega)
        rcases m12 hm0 hm1 with h | h | h | h | h | h | h | h | h | h | h | h <;> subst h
        case' inr.inl | inr.inr.inl | inr.inr.inr.inr.inr.inl | inr.inr.inr.inr.inr.inr.inl | inr.inr.inr.inr.inr.inr.inr.inr.inr.inr.inl | inr.inr.inr.inr.inr.inr.inr.inr.inr.inr.inr =>
          have HE := hid (one_dis (k := k) (n := n) HBB.out HD.out HDD.out HM.out rfl)
          clear hm0 hm1
          go_wp2_with fail
          go_wp2_with (go_at_call 72; apply own_at hO; (repeat (first | (with_reducible exact hO) | (with_reducible apply Own.alloc) | (with_reducible apply Own.drew) | ((with_reducible apply Own.set_at); (focus (show _ ≤ _; omega))))); have hG := hF; clear hF; clear hO; intro hO; refine own_call hO (fun hB => HB.out _) ?_; clear hO; intro w1 hO; (try simp only [World.size_alloc1, World.size_drew, Nat.reduceAdd] at hO); (try simp only [upd, updI, List.map_cons, List.map_nil, eq_self, if_true, if_false, reduceIte, Nat.add_eq_left, Nat.left_eq_add, Nat.reduceEqDiff, List.set_cons_zero, List.set_cons_succ, hG] at hO); clear hG; have hF := hO; (try simp only [Own, Item.Holds, apartI, CellsAt, Nat.reduceAdd, Nat.zero_add, List.mem_cons, List.not_mem_nil, or_false, forall_eq_or_imp, forall_eq, ne_eq, false_imp_iff, implies_true, and_true] at hF))
          go_wp2_with (go_at_call 56; apply own_at hO; (repeat (first | (with_reducible exact hO) | (with_reducible apply Own.alloc) | (with_reducible apply Own.drew) | ((with_reducible apply Own.set_at); (focus (show _ ≤ _; omega))))); have hG := hF; clear hF; clear hO; intro hO; refine own_call hO (fun hB => HG.out _) ?_; clear hO; intro w1 hO; (try simp only [World.size_alloc1, World.size_drew, Nat.reduceAdd] at hO); (try simp only [upd, updI, List.map_cons, List.map_nil, eq_self, if_true, if_false, reduceIte, Nat.add_eq_left, Nat.left_eq_add, Nat.reduceEqDiff, List.set_cons_zero, List.set_cons_succ, hG] at hO); clear hG; have hF := hO; (try simp only [Own, Item.Holds, apartI, CellsAt, Nat.reduceAdd, Nat.zero_add, List.mem_cons, List.not_mem_nil, or_false, forall_eq_or_imp, forall_eq, ne_eq, false_imp_iff, implies_true, and_true] at hF))
          go_ret
          exact ⟨ret_int HE.out.symm, Own.base (by first | exact hO | (repeat (first | (with_reducible exact hO) | (with_reducible apply Own.alloc) | (with_reducible apply Own.drew) | ((with_reducible apply Own.set_at); (focus (show _ ≤ _; omega))))))⟩
        all_goals
          have HE := hid (one_con (k := k) (n := n) HBB.out HD.out HDD.out HM.out rfl)
          clear hm0 hm1
          go_wp2_with fail
          go_wp2_with (go_at_call 72; apply own_at hO; (repeat (first | (with_reducible exact hO) | (with_reducible apply Own.alloc) | (with_reducible apply Own.drew) | ((with_reducible apply Own.set_at); (focus (show _ ≤ _; omega))))); have hG := hF; clear hF; clear hO; intro hO; refine own_call hO (fun hB => HB.out _) ?_; clear hO; intro w1 hO; (try simp only [World.size_alloc1, World.size_drew, Nat.reduceAdd] at hO); (try simp only [upd, updI, List.map_cons, List.map_nil, eq_self, if_true, if_false, reduceIte, Nat.add_eq_left, Nat.left_eq_add, Nat.reduceEqDiff, List.set_cons_zero, List.set_cons_succ, hG] at hO); clear hG; have hF := hO; (try simp only [Own, Item.Holds, apartI, CellsAt, Nat.reduceAdd, Nat.zero_add, List.mem_cons, List.not_mem_nil, or_false, forall_eq_or_imp, forall_eq, ne_eq, false_imp_iff, implies_true, and_true] at hF))
          go_wp2_with (go_at_call 56; apply own_at hO; (repeat (first | (with_reducible exact hO) | (with_reducible apply Own.alloc) | (with_reducible apply Own.drew) | ((with_reducible apply Own.set_at); (focus (show _ ≤ _; omega))))); have hG := hF; clear hF; clear hO; intro hO; refine own_call hO (fun hB => HG.out _) ?_; clear hO; intro w1 hO; (try simp only [World.size_alloc1, World.size_drew, Nat.reduceAdd] at hO); (try simp only [upd, updI, List.map_cons, List.map_nil, eq_self, if_true, if_false, reduceIte, Nat.add_eq_left, Nat.left_eq_add, Nat.reduceEqDiff, List.set_cons_zero, List.set_cons_succ, hG] at hO); clear hG; have hF := hO; (try simp only [Own, Item.Holds, apartI, CellsAt, Nat.reduceAdd, Nat.zero_add, List.mem_cons, List.not_mem_nil, or_false, forall_eq_or_imp, forall_eq, ne_eq, false_imp_iff, implies_true, and_true] at hF))
          all_goals
            go_ret
            exact ⟨ret_int (by rw [HE.out]; simp_all), Own.base (by first | exact hO | (repeat (first | (with_reducible exact hO) | (with_reducible apply Own.alloc) | (with_reducible apply Own.drew) | ((with_reducible apply Own.set_at); (focus (show _ ≤ _; omega))))))⟩

theorem two_rep {c p d q : Pt} {m : Int} (hm : kyP q - kyP p = m) (h : m = 0) : twoZ c p d q = 7 := by unfold twoZ; rw [hm, if_pos h]
theorem two_leap {c p d q : Pt} {m : Int} (hm : kyP q - kyP p = m) (h : m ≠ 0) (h2 : 9 < m ∨ m < -9) : twoZ c p d q = 6 := by unfold twoZ; rw [hm, if_neg h, if_pos (by omega)]
theorem two_par {c p d q : Pt} {m a b u v : Int} (hm : kyP q - kyP p = m) (h : m ≠ 0) (h2 : -9 ≤ m ∧ m ≤ 9) (ha : kyP p - kyP c = a) (hb : kyP q - kyP d = b) (hu : (a - b).tmod 12 = u) (hv : (a + 120).tmod 12 = v) : twoZ c p d q = if u = 0 ∧ (v = 0 ∨ v = 7) then 5 else 0 := by
  unfold twoZ; rw [hm, if_neg h, if_neg (by omega), ha, hb, hu, hv]

set_option maxRecDepth 20000 in
set_option maxHeartbeats 8000000 in
theorem twoS_any (c p d q : Pt) (w : World) (hc : pvP c = true) (hp : pvP p = true) (hd : pvP d = true) (hq : pvP q = true) :
    Calls Tryd.prog 38 #[.agg #[.int .i64 c.s, .int .i64 c.a, .int .i64 c.o], .agg #[.int .i64 p.s, .int .i64 p.a, .int .i64 p.o], .agg #[.int .i64 d.s, .int .i64 d.a, .int .i64 d.o], .agg #[.int .i64 q.s, .int .i64 q.a, .int .i64 q.o]] w fun e w' => e = .returned (.int .i64 (twoZ c p d q)) ∧ Below w.heap.size w w' := by
  have hO := Own.start w
  have hF := True.intro
  obtain ⟨zc, hzc⟩ : ∃ z, kyP c = z := ⟨_, rfl⟩
  obtain ⟨zp, hzp⟩ : ∃ z, kyP p = z := ⟨_, rfl⟩
  obtain ⟨zd, hzd⟩ : ∃ z, kyP d = z := ⟨_, rfl⟩
  obtain ⟨zq, hzq⟩ : ∃ z, kyP q = z := ⟨_, rfl⟩
  have b1 := ky14 hc
  have b2 := ky14 hp
  have b3 := ky14 hd
  have b4 := ky14 hq
  rw [hzc] at b1
  rw [hzp] at b2
  rw [hzd] at b3
  rw [hzq] at b4
  have HK1 := hid (fun W => keyS14 hzc W)
  have HK2 := hid (fun W => keyS14 hzp W)
  have HK3 := hid (fun W => keyS14 hzd W)
  have HK4 := hid (fun W => keyS14 hzq W)
  obtain ⟨a, ha⟩ : ∃ a, zp - zc = a := ⟨_, rfl⟩
  obtain ⟨b, hb⟩ : ∃ a, zq - zd = a := ⟨_, rfl⟩
  obtain ⟨m, hm⟩ : ∃ a, zq - zp = a := ⟨_, rfl⟩
  have HA := hid (show kyP p - kyP c = a by rw [hzc, hzp]; exact ha)
  have HB := hid (show kyP q - kyP d = b by rw [hzd, hzq]; exact hb)
  have HM := hid (show kyP q - kyP p = m by rw [hzp, hzq]; exact hm)
  have wa : IntKind.i64.wrap (zp - zc) = a := by rw [ha]; exact IntWalk.i64_in _ (by omega)
  have wb : IntKind.i64.wrap (zq - zd) = b := by rw [hb]; exact IntWalk.i64_in _ (by omega)
  have wm : IntKind.i64.wrap (zq - zp) = m := by rw [hm]; exact IntWalk.i64_in _ (by omega)
  have wn : IntKind.i64.wrap (-m) = -m := IntWalk.i64_in _ (by omega)
  obtain ⟨s, hs⟩ : ∃ s, a - b = s := ⟨_, rfl⟩
  have ws : IntKind.i64.wrap (a - b) = s := by rw [hs]; exact IntWalk.i64_in _ (by omega)
  obtain ⟨t, ht⟩ : ∃ t, a + 120 = t := ⟨_, rfl⟩
  have wt : IntKind.i64.wrap (a + 120) = t := by rw [ht]; exact IntWalk.i64_in _ (by omega)
  obtain ⟨u, hu⟩ : ∃ u, s.tmod 12 = u := ⟨_, rfl⟩
  obtain ⟨v, hv⟩ : ∃ v, t.tmod 12 = v := ⟨_, rfl⟩
  have HU := hid (show (a - b).tmod 12 = u by rw [hs]; exact hu)
  have HV := hid (show (a + 120).tmod 12 = v by rw [ht]; exact hv)
  have hv1 : t % 12 = v := by rw [← hv, Int.tmod_eq_emod_of_nonneg (by omega)]
  clear hzc hzp hzd hzq b1 b2 b3 b4 ha hb hm hs ht hc hp hd hq
  go_enter Tryd.func38, Tryd.ntmps38
  go_wp2_with fail
  apply own_code hO
  (repeat (first | (with_reducible exact hO) | (with_reducible apply Own.alloc) | (with_reducible apply Own.drew) | ((with_reducible apply Own.set_at); (focus (show _ ≤ _; omega)))))
  have hG := hF; clear hF; clear hO; intro hO
  (try simp only [World.size_alloc1, World.size_drew, Nat.reduceAdd] at hO); (try simp only [upd, updI, List.map_cons, List.map_nil, eq_self, if_true, if_false, reduceIte, Nat.add_eq_left, Nat.left_eq_add, Nat.reduceEqDiff, List.set_cons_zero, List.set_cons_succ, hG] at hO); clear hG
  refine region_own (X := fun _ => True) [] (by kernel_rfl) (hO) (trivial) (by first | exact XStab.true | exact XStab.rd | exact XStab.rdIf) ?_
  clear hO
  refine Sim.sO (i := 0) (d := some 12) (v := ?_) (hy := ?_) (h := ?_)
  rotate_left
  · first | refine Or.inl ⟨by rfl, fun w hO => ?_⟩ | (refine Or.inr ⟨by rfl, ?_⟩; with_reducible rfl)
    first | done | (have hF := hO; (try simp only [Own, Item.Holds, apartI, CellsAt, Nat.reduceAdd, Nat.zero_add, List.mem_cons, List.not_mem_nil, or_false, forall_eq_or_imp, forall_eq, ne_eq, false_imp_iff, implies_true, and_true] at hF); refine Out.same ?_; go_simp; all_goals with_reducible rfl)
  refine Sim.sO (i := 1) (d := some 13) (v := ?_) (hy := ?_) (h := ?_)
  rotate_left
  · first | refine Or.inl ⟨by rfl, fun w hO => ?_⟩ | (refine Or.inr ⟨by rfl, ?_⟩; with_reducible rfl)
    first | done | (refine Out.call (f := 59) (args := ?_) ?_ ?_; rotate_left; (focus (go_simp; all_goals with_reducible rfl)); exact HK2.out _)
  refine Sim.sO (i := 2) (d := some 14) (v := ?_) (hy := ?_) (h := ?_)
  rotate_left
  · first | refine Or.inl ⟨by rfl, fun w hO => ?_⟩ | (refine Or.inr ⟨by rfl, ?_⟩; with_reducible rfl)
    first | done | (have hF := hO; (try simp only [Own, Item.Holds, apartI, CellsAt, Nat.reduceAdd, Nat.zero_add, List.mem_cons, List.not_mem_nil, or_false, forall_eq_or_imp, forall_eq, ne_eq, false_imp_iff, implies_true, and_true] at hF); refine Out.same ?_; go_simp; all_goals with_reducible rfl)
  refine Sim.sO (i := 3) (d := some 15) (v := ?_) (hy := ?_) (h := ?_)
  rotate_left
  · first | refine Or.inl ⟨by rfl, fun w hO => ?_⟩ | (refine Or.inr ⟨by rfl, ?_⟩; with_reducible rfl)
    first | done | (refine Out.call (f := 59) (args := ?_) ?_ ?_; rotate_left; (focus (go_simp; all_goals with_reducible rfl)); exact HK1.out _)
  refine Sim.sP (i := 4) (d := some 16) (h := ?_)
  refine Sim.sP (i := 5) (d := some 9) (h := ?_)
  refine Sim.done (by kernel_rfl) (fun w1 hO hX => ?_) _
  (try simp only [World.size_alloc1, World.size_drew, Nat.reduceAdd] at hO); (try simp only [upd, updI, List.map_cons, List.map_nil, eq_self, if_true, if_false, reduceIte, Nat.add_eq_left, Nat.left_eq_add, Nat.reduceEqDiff, List.set_cons_zero, List.set_cons_succ] at hO)
  have hF := hO; (try simp only [Own, Item.Holds, apartI, CellsAt, Nat.reduceAdd, Nat.zero_add, List.mem_cons, List.not_mem_nil, or_false, forall_eq_or_imp, forall_eq, ne_eq, false_imp_iff, implies_true, and_true] at hF)
  all_goals
    go_wp2_with fail
    apply own_code hO
    (repeat (first | (with_reducible exact hO) | (with_reducible apply Own.alloc) | (with_reducible apply Own.drew) | ((with_reducible apply Own.set_at); (focus (show _ ≤ _; omega)))))
    have hG := hF; clear hF; clear hO; intro hO
    (try simp only [World.size_alloc1, World.size_drew, Nat.reduceAdd] at hO); (try simp only [upd, updI, List.map_cons, List.map_nil, eq_self, if_true, if_false, reduceIte, Nat.add_eq_left, Nat.left_eq_add, Nat.reduceEqDiff, List.set_cons_zero, List.set_cons_succ, hG] at hO); clear hG
    refine region_own (X := fun _ => True) [] (by kernel_rfl) (hO) (trivial) (by first | exact XStab.true | exact XStab.rd | exact XStab.rdIf) ?_
    clear hO
    refine Sim.sO (i := 0) (d := some 17) (v := ?_) (hy := ?_) (h := ?_)
    rotate_left
    · first | refine Or.inl ⟨by rfl, fun w hO => ?_⟩ | (refine Or.inr ⟨by rfl, ?_⟩; with_reducible rfl)
      first | done | (have hF := hO; (try simp only [Own, Item.Holds, apartI, CellsAt, Nat.reduceAdd, Nat.zero_add, List.mem_cons, List.not_mem_nil, or_false, forall_eq_or_imp, forall_eq, ne_eq, false_imp_iff, implies_true, and_true] at hF); refine Out.same ?_; go_simp; all_goals with_reducible rfl)
    refine Sim.sO (i := 1) (d := some 18) (v := ?_) (hy := ?_) (h := ?_)
    rotate_left
    · first | refine Or.inl ⟨by rfl, fun w hO => ?_⟩ | (refine Or.inr ⟨by rfl, ?_⟩; with_reducible rfl)
      first | done | (refine Out.call (f := 59) (args := ?_) ?_ ?_; rotate_left; (focus (go_simp; all_goals with_reducible rfl)); exact HK4.out _)
    refine Sim.sO (i := 2) (d := some 19) (v := ?_) (hy := ?_) (h := ?_)
    rotate_left
    · first | refine Or.inl ⟨by rfl, fun w hO => ?_⟩ | (refine Or.inr ⟨by rfl, ?_⟩; with_reducible rfl)
      first | done | (have hF := hO; (try simp only [Own, Item.Holds, apartI, CellsAt, Nat.reduceAdd, Nat.zero_add, List.mem_cons, List.not_mem_nil, or_false, forall_eq_or_imp, forall_eq, ne_eq, false_imp_iff, implies_true, and_true] at hF); refine Out.same ?_; go_simp; all_goals with_reducible rfl)
    refine Sim.sO (i := 3) (d := some 20) (v := ?_) (hy := ?_) (h := ?_)
    rotate_left
    · first | refine Or.inl ⟨by rfl, fun w hO => ?_⟩ | (refine Or.inr ⟨by rfl, ?_⟩; with_reducible rfl)
      first | done | (refine Out.call (f := 59) (args := ?_) ?_ ?_; rotate_left; (focus (go_simp; all_goals with_reducible rfl)); exact HK3.out _)
    refine Sim.sP (i := 4) (d := some 21) (h := ?_)
    refine Sim.sP (i := 5) (d := some 10) (h := ?_)
    refine Sim.done (by kernel_rfl) (fun w1 hO hX => ?_) _
    (try simp only [World.size_alloc1, World.size_drew, Nat.reduceAdd] at hO); (try simp only [upd, updI, List.map_cons, List.map_nil, eq_self, if_true, if_false, reduceIte, Nat.add_eq_left, Nat.left_eq_add, Nat.reduceEqDiff, List.set_cons_zero, List.set_cons_succ] at hO)
    have hF := hO; (try simp only [Own, Item.Holds, apartI, CellsAt, Nat.reduceAdd, Nat.zero_add, List.mem_cons, List.not_mem_nil, or_false, forall_eq_or_imp, forall_eq, ne_eq, false_imp_iff, implies_true, and_true] at hF)
    all_goals
      go_wp2_with fail
      apply own_code hO
      (repeat (first | (with_reducible exact hO) | (with_reducible apply Own.alloc) | (with_reducible apply Own.drew) | ((with_reducible apply Own.set_at); (focus (show _ ≤ _; omega)))))
      have hG := hF; clear hF; clear hO; intro hO
      (try simp only [World.size_alloc1, World.size_drew, Nat.reduceAdd] at hO); (try simp only [upd, updI, List.map_cons, List.map_nil, eq_self, if_true, if_false, reduceIte, Nat.add_eq_left, Nat.left_eq_add, Nat.reduceEqDiff, List.set_cons_zero, List.set_cons_succ, hG] at hO); clear hG
      refine region_own (X := fun _ => True) [] (by kernel_rfl) (hO) (trivial) (by first | exact XStab.true | exact XStab.rd | exact XStab.rdIf) ?_
      clear hO
      refine Sim.sO (i := 0) (d := some 22) (v := ?_) (hy := ?_) (h := ?_)
      rotate_left
      · first | refine Or.inl ⟨by rfl, fun w hO => ?_⟩ | (refine Or.inr ⟨by rfl, ?_⟩; with_reducible rfl)
        first | done | (have hF := hO; (try simp only [Own, Item.Holds, apartI, CellsAt, Nat.reduceAdd, Nat.zero_add, List.mem_cons, List.not_mem_nil, or_false, forall_eq_or_imp, forall_eq, ne_eq, false_imp_iff, implies_true, and_true] at hF); refine Out.same ?_; go_simp; all_goals with_reducible rfl)
      refine Sim.sO (i := 1) (d := some 23) (v := ?_) (hy := ?_) (h := ?_)
      rotate_left
      · first | refine Or.inl ⟨by rfl, fun w hO => ?_⟩ | (refine Or.inr ⟨by rfl, ?_⟩; with_reducible rfl)
        first | done | (refine Out.call (f := 59) (args := ?_) ?_ ?_; rotate_left; (focus (go_simp; all_goals with_reducible rfl)); exact HK4.out _)
      refine Sim.sO (i := 2) (d := some 24) (v := ?_) (hy := ?_) (h := ?_)
      rotate_left
      · first | refine Or.inl ⟨by rfl, fun w hO => ?_⟩ | (refine Or.inr ⟨by rfl, ?_⟩; with_reducible rfl)
        first | done | (have hF := hO; (try simp only [Own, Item.Holds, apartI, CellsAt, Nat.reduceAdd, Nat.zero_add, List.mem_cons, List.not_mem_nil, or_false, forall_eq_or_imp, forall_eq, ne_eq, false_imp_iff, implies_true, and_true] at hF); refine Out.same ?_; go_simp; all_goals with_reducible rfl)
      refine Sim.sO (i := 3) (d := some 25) (v := ?_) (hy := ?_) (h := ?_)
      rotate_left
      · first | refine Or.inl ⟨by rfl, fun w hO => ?_⟩ | (refine Or.inr ⟨by rfl, ?_⟩; with_reducible rfl)
        first | done | (refine Out.call (f := 59) (args := ?_) ?_ ?_; rotate_left; (focus (go_simp; all_goals with_reducible rfl)); exact HK2.out _)
      refine Sim.sP (i := 4) (d := some 26) (h := ?_)
      refine Sim.sP (i := 5) (d := some 11) (h := ?_)
      refine Sim.done (by kernel_rfl) (fun w1 hO hX => ?_) _
      (try simp only [World.size_alloc1, World.size_drew, Nat.reduceAdd] at hO); (try simp only [upd, updI, List.map_cons, List.map_nil, eq_self, if_true, if_false, reduceIte, Nat.add_eq_left, Nat.left_eq_add, Nat.reduceEqDiff, List.set_cons_zero, List.set_cons_succ] at hO)
      have hF := hO; (try simp only [Own, Item.Holds, apartI, CellsAt, Nat.reduceAdd, Nat.zero_add, List.mem_cons, List.not_mem_nil, or_false, forall_eq_or_imp, forall_eq, ne_eq, false_imp_iff, implies_true, and_true] at hF)
      all_goals
        by_cases c1 : m = 0
        · have HE := hid (two_rep (c := c) (d := d) HM.out c1)
          subst c1
          go_wp2_with fail
          go_ret
          exact ⟨ret_int HE.out.symm, Own.base (by first | exact hO | (repeat (first | (with_reducible exact hO) | (with_reducible apply Own.alloc) | (with_reducible apply Own.drew) | ((with_reducible apply Own.set_at); (focus (show _ ≤ _; omega))))))⟩
        · by_cases c2 : 9 < m ∨ m < -9
          · have HE := hid (two_leap (c := c) (d := d) HM.out c1 c2)
            rcases c2 with c2 | c2
            · have c3 : ¬ 9 < -m := by omega
              have c4 : ¬ m < -9 := by omega
              go_wp2_with fail
              all_goals
                go_ret
                exact ⟨ret_int HE.out.symm, Own.base (by first | exact hO | (repeat (first | (with_reducible exact hO) | (with_reducible apply Own.alloc) | (with_reducible apply Own.drew) | ((with_reducible apply Own.set_at); (focus (show _ ≤ _; omega))))))⟩
            · have c3 : 9 < -m := by omega
              have c4 : ¬ 9 < m := by omega
              go_wp2_with fail
              all_goals
                go_ret
                exact ⟨ret_int HE.out.symm, Own.base (by first | exact hO | (repeat (first | (with_reducible exact hO) | (with_reducible apply Own.alloc) | (with_reducible apply Own.drew) | ((with_reducible apply Own.set_at); (focus (show _ ≤ _; omega))))))⟩
          · have c3 : ¬ 9 < -m := by omega
            have c4 : ¬ 9 < m := by omega
            have c5 : ¬ m < -9 := by omega
            have HE := hid (two_par HM.out c1 (by omega) HA.out HB.out HU.out HV.out)
            clear c2
            by_cases u0 : u = 0
            · subst u0
              by_cases v0 : v = 0
              · subst v0
                go_wp2_with fail
                all_goals
                  go_ret
                  exact ⟨ret_int (by rw [HE.out]; rfl), Own.base (by first | exact hO | (repeat (first | (with_reducible exact hO) | (with_reducible apply Own.alloc) | (with_reducible apply Own.drew) | ((with_reducible apply Own.set_at); (focus (show _ ≤ _; omega))))))⟩
              · by_cases v7 : v = 7
                · subst v7
                  go_wp2_with fail
                  all_goals
                    go_ret
                    exact ⟨ret_int (by rw [HE.out]; rfl), Own.base (by first | exact hO | (repeat (first | (with_reducible exact hO) | (with_reducible apply Own.alloc) | (with_reducible apply Own.drew) | ((with_reducible apply Own.set_at); (focus (show _ ≤ _; omega))))))⟩
                · have v1 : (v == 0) = false := by simp [v0]
                  have v2 : (v == 7) = false := by simp [v7]
                  go_wp2_with fail
                  all_goals
                    go_ret
                    exact ⟨ret_int (by rw [HE.out, if_neg (by omega)]), Own.base (by first | exact hO | (repeat (first | (with_reducible exact hO) | (with_reducible apply Own.alloc) | (with_reducible apply Own.drew) | ((with_reducible apply Own.set_at); (focus (show _ ≤ _; omega))))))⟩
            · have u1 : (u == 0) = false := by simp [u0]
              go_wp2_with fail
              all_goals
                go_ret
                exact ⟨ret_int (by rw [HE.out, if_neg (by omega)]), Own.base (by first | exact hO | (repeat (first | (with_reducible exact hO) | (with_reducible apply Own.alloc) | (with_reducible apply Own.drew) | ((with_reducible apply Own.set_at); (focus (show _ ≤ _; omega))))))⟩
end Go.Proofs.YtieoobanpllmgaaDoor
