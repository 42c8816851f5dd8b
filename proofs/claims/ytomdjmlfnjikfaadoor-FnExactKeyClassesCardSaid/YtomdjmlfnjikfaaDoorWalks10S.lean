/- Chapter 10 in the program: tables, sets of classes: the least one, the classes of pitches, seen from a root, ascending. -/
import Derived.Test.YtomdjmlfnjikfaaDoorPure10S
import Derived.Test.YtomdjmlfnjikfaaDoorWalksPt
import Derived.Test.YtomdjmlfnjikfaaDoorWalksKey
import Derived.Test.YtomdjmlfnjikfaaDoorWalks2N
import Derived.Test.YtomdjmlfnjikfaaDoorWalks10M
import Derived.Laws.BitsAllLaws
namespace Go.Proofs.YtomdjmlfnjikfaaDoor
set_option linter.unusedSimpArgs false
set_option linter.unusedVariables false
open Go.RowKit Go.Joins

def debI : List Int := debT.map fun (n : Nat) => (n : Int)
def kinI : List Int := kinT.map fun (n : Nat) => (n : Int)
/-- The library's table of places lies as its text lays it. -/
def TabU (w : World) : Prop := Lib.TabIs Tryd.prog w "math/bits.deBruijn32tab" .u8 debI
/-- The table of kinds lies as the text lays it. -/
def TabK (w : World) : Prop := Lib.TabIs Tryd.prog w "loop.example/musicengine/impl.kindClasses" .u16 kinI
theorem gK : Tryd.prog.globalNamed "loop.example/musicengine/impl.kindClasses" = some 0 := by kernel_rfl
theorem gU : Tryd.prog.globalNamed "math/bits.deBruijn32tab" = some 3 := by kernel_rfl
theorem TabK.below {w w' : World} (h : TabK w) (hb : Below w.heap.size w w') : TabK w' := tab_stays gK h hb (Nat.le_refl _)
theorem TabU.below {w w' : World} (h : TabU w) (hb : Below w.heap.size w w') : TabU w' := tab_stays gU h hb (Nat.le_refl _)
theorem TabU.cell {w : World} (h : TabU w) {k : Nat} (hk : k < 32) : w.cell? ⟨3, k, none⟩ = some (.int .u8 ((debT.getD k 99 : Nat) : Int)) := by
  rw [Lib.TabIs.cell h gU k (by simp [debI, debT]; omega)]
  unfold debI
  rw [List.getD_eq_getElem?_getD, List.getD_eq_getElem?_getD, List.getElem?_map, List.getElem?_eq_getElem (show k < debT.length from hk)]
  rfl
theorem TabK.cell {w : World} (h : TabK w) {k : Nat} (hk : k < 9) : w.cell? ⟨0, k, none⟩ = some (.int .u16 ((kinT.getD k 0 : Nat) : Int)) := by
  rw [Lib.TabIs.cell h gK k (by simp [kinI, kinT]; omega)]
  unfold kinI
  rw [List.getD_eq_getElem?_getD, List.getD_eq_getElem?_getD, List.getElem?_map, List.getElem?_eq_getElem (show k < kinT.length from hk)]
  rfl

theorem tz_key {m : Nat} (h0 : m ≠ 0) (hm : m < 4096) : bits .and .u16 (m : Int) (IntKind.u16.wrap (-(m : Int))) % 4294967296 * 125613361 % 4294967296 / 134217728 = ((debX m : Nat) : Int) := by
  have e1 : IntKind.u16.wrap (-(m : Int)) = ((65536 - m : Nat) : Int) := by rw [IntKind.wrap_u16]; omega
  rw [e1, u16_and_nat m _ (by omega) (by omega)]
  have : m &&& (65536 - m) ≤ m := Nat.and_le_left
  unfold debX
  omega
theorem tzI_any (m : Nat) (w : World) (h0 : m ≠ 0) (hm : m < 4096) (hT : TabU w) :
    Calls Tryd.prog 77 #[.int .u16 m] w fun e w' => e = .returned (.int .i64 (tzN m)) ∧ w = w' := by
  obtain ⟨_, hk, _, hi, ht⟩ := bit_at h0 hm
  have key := tz_key h0 hm
  have hcell := hT.cell hi
  rw [ht] at hcell
  have hz : ((m : Int) == 0) = false := by simp; omega
  obtain ⟨k, hk2⟩ : ∃ k, tzN m = k := ⟨_, rfl⟩
  obtain ⟨x, hx⟩ : ∃ x, debX m = x := ⟨_, rfl⟩
  rw [hk2] at hk hcell ⊢
  rw [hx] at hi key hcell
  clear hk2 hx ht hT h0
  go_enter Tryd.func77, Tryd.ntmps77
  go_wp2_with (simp only [key])
  go_ret
  exact ⟨rfl, rfl⟩

theorem wrap_pow16 {q : Int} (h0 : 0 ≤ q) (h1 : q < 12) : IntKind.u16.wrap (2 ^ q.toNat) = 2 ^ q.toNat := by
  obtain ⟨n, rfl⟩ : ∃ n : Nat, q = n := ⟨q.toNat, by omega⟩
  have : (2 : Nat) ^ n ≤ 2 ^ 11 := Nat.pow_le_pow_right (by omega) (by omega)
  have e : (2 : Int) ^ n = ((2 ^ n : Nat) : Int) := by simp
  rw [IntKind.wrap_u16, show ((n : Int)).toNat = n from rfl, e]
  generalize 2 ^ n = p at *
  omega
theorem ab_key {m : Nat} {q : Int} (hm : m < 4096) (h0 : 0 ≤ q) (h1 : q < 12) : bits .and .u16 (bits .or .u16 ((m : Int) / 2 ^ q.toNat) (IntKind.u16.wrap ((m : Int) * 2 ^ (12 - q).toNat))) 4095 = (abN m q.toNat : Nat) := by
  obtain ⟨n, rfl⟩ : ∃ n : Nat, q = n := ⟨q.toNat, by omega⟩
  have hn : n < 12 := by omega
  have t1 : ((n : Int)).toNat = n := rfl
  have t2 : (12 - (n : Int)).toNat = 12 - n := by omega
  rw [t1, t2]
  have e1 : (2 : Int) ^ n = ((2 ^ n : Nat) : Int) := by simp
  have e2 : (2 : Int) ^ (12 - n) = ((2 ^ (12 - n) : Nat) : Int) := by simp
  rw [e1, e2, IntKind.wrap_u16]
  have a1 : (m : Int) / ((2 ^ n : Nat) : Int) = ((m / 2 ^ n : Nat) : Int) := by simp
  have a2 : ((m : Int) * ((2 ^ (12 - n) : Nat) : Int)) % 65536 = ((m * 2 ^ (12 - n) % 65536 : Nat) : Int) := by
    rw [← Int.natCast_mul]; omega
  have b1 : m / 2 ^ n < 65536 := Nat.lt_of_le_of_lt (Nat.div_le_self _ _) (by omega)
  have b2 : m * 2 ^ (12 - n) % 65536 < 65536 := Nat.mod_lt _ (by omega)
  have b3 : m / 2 ^ n ||| m * 2 ^ (12 - n) % 65536 < 2 ^ 16 := Nat.or_lt_two_pow b1 b2
  rw [a1, a2, u16_or_nat _ _ b1 b2]
  exact u16_and_nat _ 4095 b3 (by omega)
theorem keyI_isT {x : Pt} {z : Int} (hz : kyP x = z) (W : World) (ht : TabH W) :
    Calls Tryd.prog 17 #[.agg #[.int .i64 x.s, .int .i64 x.a, .int .i64 x.o]] W fun e w' => e = .returned (.int .i64 z) ∧ Below W.heap.size W w' := by
  subst hz; exact keyI_any _ _ _ W ht
theorem kcI1_any (x : Pt) (w : World) (hv : pvP x = true) (ht : TabH w) :
    Calls Tryd.prog 81 #[.agg #[.int .i64 x.s, .int .i64 x.a, .int .i64 x.o]] w fun e w' => e = .returned (.int .i64 (cls x)) ∧ Below w.heap.size w w' := by
  have hO := Own.start w
  have hF := True.intro
  have hb := keyZ_bd hv
  obtain ⟨z, hz⟩ : ∃ z, kyP x = z := ⟨_, rfl⟩
  have HK := hid (fun W (hW : Below w.heap.size w W) => keyI_isT hz W (ht.below hW))
  have HE := hid (show cls x = z % 12 by unfold cls; rw [hz]; omega)
  have hb' : -2 ≤ z ∧ z ≤ 200 := by unfold kyP at hz; omega
  obtain ⟨z0, z1⟩ := hb'
  have e1 : IntKind.i64.wrap (z + 12) = z + 12 := IntWalk.i64_in _ (by omega)
  have e2 : 0 ≤ z + 12 := by omega
  have e3 : (z + 12).tmod 12 = (z + 12) % 12 := Int.tmod_eq_emod_of_nonneg (by omega)
  clear hb hz ht hv
  go_enter Tryd.func81, Tryd.ntmps81
  go_wp2_with (go_at_call 17; apply own_at hO; (repeat (first | (with_reducible exact hO) | (with_reducible apply Own.alloc) | (with_reducible apply Own.drew) | ((with_reducible apply Own.set_at); (focus (show _ ≤ _; omega))))); have hG := hF; clear hF; clear hO; intro hO; refine own_call hO (fun hB => HK.out _ hB) ?_; clear hO; intro w1 hO; (try simp only [World.size_alloc1, World.size_drew, Nat.reduceAdd] at hO); (try simp only [upd, updI, List.map_cons, List.map_nil, eq_self, if_true, if_false, reduceIte, Nat.add_eq_left, Nat.left_eq_add, Nat.reduceEqDiff, List.set_cons_zero, List.set_cons_succ, hG] at hO); clear hG; have hF := hO; (try simp only [Own, Item.Holds, apartI, CellsAt, Nat.reduceAdd, Nat.zero_add, List.mem_cons, List.not_mem_nil, or_false, forall_eq_or_imp, forall_eq, ne_eq, false_imp_iff, implies_true, and_true] at hF))
  go_ret
  exact ⟨ret_int HE.out.symm, Own.base (by (repeat (first | (with_reducible exact hO) | (with_reducible apply Own.alloc) | (with_reducible apply Own.drew) | ((with_reducible apply Own.set_at); (focus (show _ ≤ _; omega))))))⟩
theorem kcI1_is {x : Pt} {c : Int} (hc : cls x = c) (hv : pvP x = true) (W : World) (ht : TabH W) :
    Calls Tryd.prog 81 #[.agg #[.int .i64 x.s, .int .i64 x.a, .int .i64 x.o]] W fun e w' => e = .returned (.int .i64 c) ∧ Below W.heap.size W w' := by
  subst hc; exact kcI1_any x W hv ht

set_option maxRecDepth 8000 in
set_option maxHeartbeats 4000000 in
theorem clI_any (va : Value) (l : List Pt) (w : World) (hs : SlAt w va l.length 3 (pcC l)) (hn : l.length ≤ 12) (hv : ∀ x ∈ l, pvP x = true) (ht : TabH w) :
    Calls Tryd.prog 55 #[va] w fun e w' => e = .returned (.int .u16 (bmN l l.length)) ∧ Below w.heap.size w w' := by
  have hO := Own.start w
  have hF := True.intro
  obtain ⟨A, c, rfl, nb, hA⟩ := hs.open
  have HA := hid hs
  have HT := hid ht
  have HV := hid hv
  clear hs ht hv
  obtain ⟨n, hnl⟩ : ∃ n, l.length = n := ⟨_, rfl⟩
  have HN := hid hnl
  rw [hnl] at hn nb hA HA ⊢
  clear hnl
  go_enter Tryd.func55, Tryd.ntmps55
  go_wp2_with fail
  (apply own_code hO; (repeat (first | (with_reducible exact hO) | (with_reducible apply Own.alloc) | (with_reducible apply Own.drew) | ((with_reducible apply Own.set_at); (focus (show _ ≤ _; omega))))); have hG := hF; clear hF; clear hO; intro hO; (try simp only [World.size_alloc1, World.size_drew, Nat.reduceAdd] at hO); (try simp only [upd, updI, List.map_cons, List.map_nil, eq_self, if_true, if_false, reduceIte, Nat.add_eq_left, Nat.left_eq_add, Nat.reduceEqDiff, List.set_cons_zero, List.set_cons_succ, hG] at hO); clear hG; have hF := hO; (try simp only [Own, Item.Holds, apartI, CellsAt, Nat.reduceAdd, Nat.zero_add, List.mem_cons, List.not_mem_nil, or_false, forall_eq_or_imp, forall_eq, ne_eq, false_imp_iff, implies_true, and_true] at hF))
  go_loopw [3, 8] (fun s t wr => ∃ j m : Nat, j ≤ n ∧ m < 4096 ∧ t = .int .i64 j ∧ s = .int .u16 m ∧ Hid (m = bmN l j) ∧ Own w.heap.size (Below w.heap.size w) wr []) (fun _ t _ => n - (intOf t).toNat)
  case atStart => exact ⟨0, 0, by omega, by omega, rfl, rfl, (bmN_zero l).symm, hO⟩
  case round =>
    clear hO hF
    obtain ⟨j, m, hj, hm, rfl, rfl, HM, hO⟩ := hrel
    have hF := hO; (try simp only [Own, Item.Holds, apartI, CellsAt, Nat.reduceAdd, Nat.zero_add, List.mem_cons, List.not_mem_nil, or_false, forall_eq_or_imp, forall_eq, ne_eq, false_imp_iff, implies_true, and_true] at hF)
    by_cases he : j = n
    · subst he
      go_wp2_with fail
      go_ret
      exact ⟨by have := HM.out; subst this; rfl, hO.base⟩
    · have hlt : j < n := by omega
      have hlt2 : (j : Int) < n := by omega
      obtain ⟨b, off, rfl, hc1, hc2, hb⟩ := hA (by omega)
      obtain ⟨x, hx⟩ : ∃ x, l[j]? = some x := ⟨_, List.getElem?_eq_getElem (by have := HN.out; omega)⟩
      obtain ⟨d0, d1, d2⟩ := ptAt (HA.out.below hO.base) hx
      have hxv := HV.out x (List.mem_of_getElem? hx)
      have hcb := cls_bd x
      obtain ⟨q, hq⟩ : ∃ q, cls x = q := ⟨_, rfl⟩
      have HC := hid (fun W (hW : Below w.heap.size w W) => kcI1_is hq hxv W (HT.out.below hW))
      rw [hq] at hcb
      obtain ⟨q0, q1⟩ := hcb
      have hM2 := bmN_lt l (j + 1)
      obtain ⟨m2, hm2⟩ : ∃ m2, bmN l (j + 1) = m2 := ⟨_, rfl⟩
      rw [hm2] at hM2
      have E1 := hid (show bits .or .u16 (m : Int) (IntKind.u16.wrap (2 ^ q.toNat)) = (m2 : Int) by
        rw [wrap_pow16 q0 q1, show (2 : Int) ^ q.toNat = ((2 ^ q.toNat : Nat) : Int) by simp, u16_or_nat m _ (by omega) (Nat.lt_of_le_of_lt (Nat.pow_le_pow_right (by omega) (show q.toNat ≤ 11 by omega)) (by omega)), ← hm2, bmN_up hx, hq, ← HM.out])
      have HM2 := hid hm2
      clear he hx hxv hq hm2
      go_wp2_with (go_at_call 81; apply own_at hO; (repeat (first | (with_reducible exact hO) | (with_reducible apply Own.alloc) | (with_reducible apply Own.drew) | ((with_reducible apply Own.set_at); (focus (show _ ≤ _; omega))))); have hG := hF; clear hF; clear hO; intro hO; refine own_call hO (fun hB => HC.out _ hB) ?_; clear hO; intro w1 hO; (try simp only [World.size_alloc1, World.size_drew, Nat.reduceAdd] at hO); (try simp only [upd, updI, List.map_cons, List.map_nil, eq_self, if_true, if_false, reduceIte, Nat.add_eq_left, Nat.left_eq_add, Nat.reduceEqDiff, List.set_cons_zero, List.set_cons_succ, hG] at hO); clear hG; have hF := hO; (try simp only [Own, Item.Holds, apartI, CellsAt, Nat.reduceAdd, Nat.zero_add, List.mem_cons, List.not_mem_nil, or_false, forall_eq_or_imp, forall_eq, ne_eq, false_imp_iff, implies_true, and_true] at hF))
      go_roundw
      case rel => exact ⟨j + 1, m2, by omega, by omega, by go_num, by rw [E1.out], HM2.out.symm, Own.drop hO⟩
      case measure => simp [intOf]; omega

set_option maxHeartbeats 2000000 in
theorem abI_any (x : Pt) (m : Nat) (w : World) (hv : pvP x = true) (hm : m < 4096) (ht : TabH w) :
    Calls Tryd.prog 57 #[.int .u16 m, .agg #[.int .i64 x.s, .int .i64 x.a, .int .i64 x.o]] w fun e w' => e = .returned (.int .u16 (abN m (cls x).toNat)) ∧ Below w.heap.size w w' := by
  have hO := Own.start w
  have hF := True.intro
  have hcb := cls_bd x
  obtain ⟨q, hq⟩ : ∃ q, cls x = q := ⟨_, rfl⟩
  have HC := hid (fun W (hW : Below w.heap.size w W) => kcI1_is hq hv W (ht.below hW))
  rw [hq] at hcb ⊢
  obtain ⟨q0, q1⟩ := hcb
  have HE := hid (ab_key hm q0 q1)
  have e1 : IntKind.i64.wrap (12 - q) = 12 - q := IntWalk.i64_in _ (by omega)
  have e2 : 0 ≤ 12 - q := by omega
  clear hq hv ht
  go_enter Tryd.func57, Tryd.ntmps57
  go_wp2_with (go_at_call 81; apply own_at hO; (repeat (first | (with_reducible exact hO) | (with_reducible apply Own.alloc) | (with_reducible apply Own.drew) | ((with_reducible apply Own.set_at); (focus (show _ ≤ _; omega))))); have hG := hF; clear hF; clear hO; intro hO; refine own_call hO (fun hB => HC.out _ hB) ?_; clear hO; intro w1 hO; (try simp only [World.size_alloc1, World.size_drew, Nat.reduceAdd] at hO); (try simp only [upd, updI, List.map_cons, List.map_nil, eq_self, if_true, if_false, reduceIte, Nat.add_eq_left, Nat.left_eq_add, Nat.reduceEqDiff, List.set_cons_zero, List.set_cons_succ, hG] at hO); clear hG; have hF := hO; (try simp only [Own, Item.Holds, apartI, CellsAt, Nat.reduceAdd, Nat.zero_add, List.mem_cons, List.not_mem_nil, or_false, forall_eq_or_imp, forall_eq, ne_eq, false_imp_iff, implies_true, and_true] at hF))
  apply own_code hO
  (repeat (first | (with_reducible exact hO) | (with_reducible apply Own.alloc) | (with_reducible apply Own.drew) | ((with_reducible apply Own.set_at); (focus (show _ ≤ _; omega)))))
  have hG := hF; clear hF; clear hO; intro hO
  (try simp only [World.size_alloc1, World.size_drew, Nat.reduceAdd] at hO); (try simp only [upd, updI, List.map_cons, List.map_nil, eq_self, if_true, if_false, reduceIte, Nat.add_eq_left, Nat.left_eq_add, Nat.reduceEqDiff, List.set_cons_zero, List.set_cons_succ, hG] at hO); clear hG
  refine region_own (X := fun _ => True) [] (by kernel_rfl) (hO) (trivial) (by first | exact XStab.true | exact XStab.rd | exact XStab.rdIf) ?_
  clear hO
  refine Sim.takeP (i := 0) (d := some 8) (v := ?_) rfl rfl (by kernel_rfl) (by kernel_rfl) (by kernel_rfl) (fun _ _ _ h => h) (by first | exact XStab.true | exact XStab.rd | exact XStab.rdIf) ?_ ?_
  rotate_left
  · first | refine Or.inl ⟨by rfl, fun w => ?_⟩ | (refine Or.inr ⟨by rfl, ?_⟩; with_reducible rfl)
    first | done | (go_simp; all_goals with_reducible rfl)
  try simp only [Act.put, List.setIfInBounds_toArray, List.set_cons_zero, List.set_cons_succ]
  refine Sim.takeP (i := 1) (d := some 9) (v := ?_) rfl rfl (by kernel_rfl) (by kernel_rfl) (by kernel_rfl) (fun _ _ _ h => h) (by first | exact XStab.true | exact XStab.rd | exact XStab.rdIf) ?_ ?_
  rotate_left
  · first | refine Or.inl ⟨by rfl, fun w => ?_⟩ | (refine Or.inr ⟨by rfl, ?_⟩; with_reducible rfl)
    first | done | (go_simp; all_goals with_reducible rfl)
  try simp only [Act.put, List.setIfInBounds_toArray, List.set_cons_zero, List.set_cons_succ]
  refine Sim.takeP (i := 2) (d := some 10) (v := ?_) rfl rfl (by kernel_rfl) (by kernel_rfl) (by kernel_rfl) (fun _ _ _ h => h) (by first | exact XStab.true | exact XStab.rd | exact XStab.rdIf) ?_ ?_
  rotate_left
  · first | refine Or.inl ⟨by rfl, fun w => ?_⟩ | (refine Or.inr ⟨by rfl, ?_⟩; with_reducible rfl)
    first | done | (go_simp; all_goals with_reducible rfl)
  try simp only [Act.put, List.setIfInBounds_toArray, List.set_cons_zero, List.set_cons_succ]
  refine Sim.takeP (i := 3) (d := some 11) (v := ?_) rfl rfl (by kernel_rfl) (by kernel_rfl) (by kernel_rfl) (fun _ _ _ h => h) (by first | exact XStab.true | exact XStab.rd | exact XStab.rdIf) ?_ ?_
  rotate_left
  · first | refine Or.inl ⟨by rfl, fun w => ?_⟩ | (refine Or.inr ⟨by rfl, ?_⟩; with_reducible rfl)
    first | done | (go_simp; all_goals with_reducible rfl)
  try simp only [Act.put, List.setIfInBounds_toArray, List.set_cons_zero, List.set_cons_succ]
  refine Sim.takeP (i := 4) (d := some 12) (v := ?_) rfl rfl (by kernel_rfl) (by kernel_rfl) (by kernel_rfl) (fun _ _ _ h => h) (by first | exact XStab.true | exact XStab.rd | exact XStab.rdIf) ?_ ?_
  rotate_left
  · first | refine Or.inl ⟨by rfl, fun w => ?_⟩ | (refine Or.inr ⟨by rfl, ?_⟩; with_reducible rfl)
    first | done | (go_simp; all_goals with_reducible rfl)
  try simp only [Act.put, List.setIfInBounds_toArray, List.set_cons_zero, List.set_cons_succ]
  refine Sim.takeP (i := 5) (d := some 13) (v := ?_) rfl rfl (by kernel_rfl) (by kernel_rfl) (by kernel_rfl) (fun _ _ _ h => h) (by first | exact XStab.true | exact XStab.rd | exact XStab.rdIf) ?_ ?_
  rotate_left
  · first | refine Or.inl ⟨by rfl, fun w => ?_⟩ | (refine Or.inr ⟨by rfl, ?_⟩; with_reducible rfl)
    first | done | (go_simp; all_goals with_reducible rfl)
  try simp only [Act.put, List.setIfInBounds_toArray, List.set_cons_zero, List.set_cons_succ]
  refine Sim.takeP (i := 6) (d := some 14) (v := ?_) rfl rfl (by kernel_rfl) (by kernel_rfl) (by kernel_rfl) (fun _ _ _ h => h) (by first | exact XStab.true | exact XStab.rd | exact XStab.rdIf) ?_ ?_
  rotate_left
  · first | refine Or.inl ⟨by rfl, fun w => ?_⟩ | (refine Or.inr ⟨by rfl, ?_⟩; with_reducible rfl)
    first | done | (go_simp; all_goals with_reducible rfl)
  try simp only [Act.put, List.setIfInBounds_toArray, List.set_cons_zero, List.set_cons_succ]
  refine Sim.takeP (i := 7) (d := some 15) (v := ?_) rfl rfl (by kernel_rfl) (by kernel_rfl) (by kernel_rfl) (fun _ _ _ h => h) (by first | exact XStab.true | exact XStab.rd | exact XStab.rdIf) ?_ ?_
  rotate_left
  · first | refine Or.inl ⟨by rfl, fun w => ?_⟩ | (refine Or.inr ⟨by rfl, ?_⟩; with_reducible rfl)
    first | done | (go_simp; all_goals with_reducible rfl)
  try simp only [Act.put, List.setIfInBounds_toArray, List.set_cons_zero, List.set_cons_succ]
  refine Sim.takeP (i := 8) (d := some 16) (v := ?_) rfl rfl (by kernel_rfl) (by kernel_rfl) (by kernel_rfl) (fun _ _ _ h => h) (by first | exact XStab.true | exact XStab.rd | exact XStab.rdIf) ?_ ?_
  rotate_left
  · first | refine Or.inl ⟨by rfl, fun w => ?_⟩ | (refine Or.inr ⟨by rfl, ?_⟩; with_reducible rfl)
    first | done | (go_simp; all_goals with_reducible rfl)
  try simp only [Act.put, List.setIfInBounds_toArray, List.set_cons_zero, List.set_cons_succ]
  refine Sim.takeP (i := 9) (d := some 4) (v := ?_) rfl rfl (by kernel_rfl) (by kernel_rfl) (by kernel_rfl) (fun _ _ _ h => h) (by first | exact XStab.true | exact XStab.rd | exact XStab.rdIf) ?_ ?_
  rotate_left
  · first | refine Or.inl ⟨by rfl, fun w => ?_⟩ | (refine Or.inr ⟨by rfl, ?_⟩; with_reducible rfl)
    first | done | (go_simp; all_goals with_reducible rfl)
  try simp only [Act.put, List.setIfInBounds_toArray, List.set_cons_zero, List.set_cons_succ]
  refine Sim.done (by kernel_rfl) (fun w1 hO hX => ?_) _
  (try simp only [World.size_alloc1, World.size_drew, Nat.reduceAdd] at hO); (try simp only [upd, updI, List.map_cons, List.map_nil, eq_self, if_true, if_false, reduceIte, Nat.add_eq_left, Nat.left_eq_add, Nat.reduceEqDiff, List.set_cons_zero, List.set_cons_succ] at hO)
  have hF := hO; (try simp only [Own, Item.Holds, apartI, CellsAt, Nat.reduceAdd, Nat.zero_add, List.mem_cons, List.not_mem_nil, or_false, forall_eq_or_imp, forall_eq, ne_eq, false_imp_iff, implies_true, and_true] at hF)
  go_wp2
  go_ret
  exact ⟨congrArg (fun z => Ending.returned (Value.int .u16 z)) HE.out, hO.base⟩

theorem and_key {m : Nat} (h0 : m ≠ 0) (hm : m < 4096) : bits .and .u16 (m : Int) ((m : Int) - 1) = ((m &&& (m - 1) : Nat) : Int) := by
  rw [show (m : Int) - 1 = ((m - 1 : Nat) : Int) by omega]
  exact u16_and_nat m _ (by omega) (by omega)
theorem as_up {m0 m : Nat} {u : List Int} (h : asL m0 = u ++ asL m) (h0 : m ≠ 0) (hm : m < 4096) : asL m0 = (u ++ [(tzN m : Int)]) ++ asL (m &&& (m - 1)) := by
  rw [h, asL_up h0 hm, List.append_assoc]; rfl
set_option maxRecDepth 8000 in
set_option maxHeartbeats 4000000 in
theorem asI_any (m0 : Nat) (w : World) (hm0 : m0 < 4096) (hT : TabU w) :
    Calls Tryd.prog 45 #[.int .u16 m0] w (RowOut 3 1 (asL m0).length (intC (asL m0)) w) := by
  have hO := (Own.start w).nilRow 3 1
  have hF := True.intro
  have HT := hid hT
  clear hT
  obtain ⟨i0, hi, hz0, hz1, hz2⟩ := info_parts infoI10
  go_enter Tryd.func45, Tryd.ntmps45
  go_wp2_with fail
  go_loopw [0, 3] (fun s v wr => ∃ (m k : Nat) (u : List Int), m < 4096 ∧ k ≤ 12 ∧ s = .int .u16 m ∧ Hid (asL m0 = u ++ asL m ∧ u.length = k) ∧ Own w.heap.size (Below w.heap.size w) wr [.row 3 1 v k (intC u)]) (fun s _ _ => (intOf s).toNat)
  case atStart => exact ⟨m0, 0, [], hm0, by omega, rfl, ⟨rfl, rfl⟩, hO⟩
  case round =>
    clear hO hF hm0
    obtain ⟨m, k, u, hm, hk, rfl, HM, hO⟩ := hrel
    have hF := hO; (try simp only [Own, Item.Holds, apartI, CellsAt, Nat.reduceAdd, Nat.zero_add, List.mem_cons, List.not_mem_nil, or_false, forall_eq_or_imp, forall_eq, ne_eq, false_imp_iff, implies_true, and_true] at hF)
    by_cases he : m = 0
    · subst he
      have HE := hid (show asL m0 = u by rw [HM.out.1, asL_zero, List.append_nil])
      go_wp2_with fail
      go_ret
      rw [HE.out, HM.out.2]
      exact RowOut.mk hO
    · have hz : ((m : Int) == 0) = false := by simp; omega
      obtain ⟨_, _, hlt, _, _⟩ := bit_at he hm
      have HU := hid (as_up HM.out.1 he hm)
      have HA := hid (and_key he hm)
      have HC := hid (fun W (hW : Below w.heap.size w W) => tzI_any m W he hm (HT.out.below hW))
      have m1 : 1 ≤ (m : Int) := by omega
      have m2 : (m : Int) ≤ 4095 := by omega
      have e1 : IntKind.u16.wrap ((m : Int) - 1) = (m : Int) - 1 := by rw [IntKind.wrap_u16]; omega
      have HK := hid (show u.length + 1 ≤ 12 by
        have h1 := asL_len m0
        rw [HU.out] at h1
        simp at h1
        omega)
      have hk12 : k + 1 ≤ 12 := by have := HK.out; have := HM.out.2; omega
      clear he HK
      obtain ⟨z, hzz⟩ : ∃ z, (tzN m : Int) = z := ⟨_, rfl⟩
      rw [hzz] at HU HC
      obtain ⟨m', hm'⟩ : ∃ z, m &&& (m - 1) = z := ⟨_, rfl⟩
      rw [hm'] at HU HA hlt
      clear hzz hm'
      go_wp2_with (first | (go_at_call 77; refine (HC.out _ hO.base).mono ?_; rintro e w1 ⟨rfl, rfl⟩) | (at_builtin; refine wpList_append_item rfl _ _ 38 rfl 3 i0 (.int .i64 0) 1 8 Tryd.underlying38 hi hz0 hz1 hz2 rfl (by decide) rfl rfl (Own.alloc hO) rfl one1t (by unfold maxLen; omega) (by omega) ?_; clear hO hF; intro v' w2 hO _; have hF := True.intro))
      go_roundw
      case rel => exact ⟨m', k + 1, u ++ [z], by omega, by omega, by rw [HA.out], ⟨HU.out, by have := HM.out.2; simp; omega⟩, by rw [show intC (u ++ [z]) = intC u ++ [.int .i64 z] by simp [intC]]; exact hO⟩
      case measure => rw [HA.out]; simp [intOf]; omega
end Go.Proofs.YtomdjmlfnjikfaaDoor
