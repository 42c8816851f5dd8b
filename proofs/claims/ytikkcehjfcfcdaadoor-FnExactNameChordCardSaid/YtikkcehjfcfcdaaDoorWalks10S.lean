/- Chapter 10 in the program: tables, sets of classes: the least one, the classes of pitches, seen from a root, ascending. -/
import Derived.Test.YtikkcehjfcfcdaaDoorPure10S
import Derived.Test.YtikkcehjfcfcdaaDoorWalksPt
import Derived.Test.YtikkcehjfcfcdaaDoorWalksKey
import Derived.Test.YtikkcehjfcfcdaaDoorWalks2N
import Derived.Test.YtikkcehjfcfcdaaDoorWalks10T
import Derived.Laws.BitsAllLaws
namespace Go.Proofs.YtikkcehjfcfcdaaDoor
set_option linter.unusedSimpArgs false
set_option linter.unusedVariables false
set_option maxRecDepth 8000
open Go.RowKit Go.Joins

def debI : List Int := debT.map fun (n : Nat) => (n : Int)
def kinI : List Int := kinT.map fun (n : Nat) => (n : Int)
/-- The library's table of places lies as its text lays it. -/
def TabU (w : World) : Prop := Lib.TabIs Tryd.prog w "math/bits.deBruijn32tab" .u8 debI
/-- The table of kinds lies as the text lays it. -/
def TabK (w : World) : Prop := Lib.TabIs Tryd.prog w "loop.example/musicengine/impl.kindClasses" .u16 kinI
theorem gK : Tryd.prog.globalNamed "loop.example/musicengine/impl.kindClasses" = some 0 := by kernel_rfl
theorem gU : Tryd.prog.globalNamed "math/bits.deBruijn32tab" = some 2 := by kernel_rfl
theorem TabK.below {w w' : World} (h : TabK w) (hb : Below w.heap.size w w') : TabK w' := tab_stays gK h hb (Nat.le_refl _)
theorem TabU.below {w w' : World} (h : TabU w) (hb : Below w.heap.size w w') : TabU w' := tab_stays gU h hb (Nat.le_refl _)
theorem TabU.cell {w : World} (h : TabU w) {k : Nat} (hk : k < 32) : w.cell? ⟨2, k, none⟩ = some (.int .u8 ((debT.getD k 99 : Nat) : Int)) := by
  rw [Lib.TabIs.cell h gU k (by simp [debI, debT]; omega)]
  unfold debI
  rw [List.getD_eq_getElem?_getD, List.getD_eq_getElem?_getD, List.getElem?_map, List.getElem?_eq_getElem (show k < debT.length from hk)]
  rfl
theorem TabK.cell {w : World} (h : TabK w) {k : Nat} (hk : k < 9) : w.cell? ⟨0, k, none⟩ = some (.int .u16 ((kinT.getD k 0 : Nat) : Int)) := by
  rw [Lib.TabIs.cell h gK k (by simp [kinI, kinT]; omega)]
  unfold kinI
  rw [List.getD_eq_getElem?_getD, List.getD_eq_getElem?_getD, List.getElem?_map, List.getElem?_eq_getElem (show k < kinT.length from hk)]
  rfl

theorem tz_key {m : Nat} (h0 : m ≠ 0) (hm : m < 4096) : bits .and .u16 (m : Int) (IntKind.u16.wrap (-(m : Int))) % 4294967296 * 125613361 % 4294967296 / 134217728 = ((debX m : Nat) : Int) := by
  have e1 : IntKind.u16.wrap (-(m : Int)) = ((65536 - m : Nat) : Int) := by rw [IntKind.wrap_u16]; omega
  rw [e1, u16_and_nat m _ (by omega) (by omega)]
  have : m &&& (65536 - m) ≤ m := Nat.and_le_left
  unfold debX
  omega
theorem tzI_any (m : Nat) (w : World) (h0 : m ≠ 0) (hm : m < 4096) (hT : TabU w) :
    Calls Tryd.prog 47 #[.int .u16 m] w fun e w' => e = .returned (.int .i64 (tzN m)) ∧ w = w' := by
  obtain ⟨_, hk, _, hi, ht⟩ := bit_at h0 hm
  have key := tz_key h0 hm
  have hcell := hT.cell hi
  rw [ht] at hcell
  have hz : ((m : Int) == 0) = false := by simp; omega
  obtain ⟨k, hk2⟩ : ∃ k, tzN m = k := ⟨_, rfl⟩
  obtain ⟨x, hx⟩ : ∃ x, debX m = x := ⟨_, rfl⟩
  rw [hk2] at hk hcell ⊢
  rw [hx] at hi key hcell
  clear hk2 hx ht hT h0
  go_enter Tryd.func47, Tryd.ntmps47
  go_wp2_with (simp only [key])
  go_ret
  exact ⟨rfl, rfl⟩

theorem wrap_pow16 {q : Int} (h0 : 0 ≤ q) (h1 : q < 12) : IntKind.u16.wrap (2 ^ q.toNat) = 2 ^ q.toNat := by
  obtain ⟨n, rfl⟩ : ∃ n : Nat, q = n := ⟨q.toNat, by omega⟩
  have : (2 : Nat) ^ n ≤ 2 ^ 11 := Nat.pow_le_pow_right (by omega) (by omega)
  have e : (2 : Int) ^ n = ((2 ^ n : Nat) : Int) := by simp
  rw [IntKind.wrap_u16, show ((n : Int)).toNat = n from rfl, e]
  generalize 2 ^ n = p at *
  omega
theorem ab_key {m : Nat} {q : Int} (hm : m < 4096) (h0 : 0 ≤ q) (h1 : q < 12) : bits .and .u16 (bits .or .u16 ((m : Int) / 2 ^ q.toNat) (IntKind.u16.wrap ((m : Int) * 2 ^ (12 - q).toNat))) 4095 = (abN m q.toNat : Nat) := by
  obtain ⟨n, rfl⟩ : ∃ n : Nat, q = n := ⟨q.toNat, by omega⟩
  have hn : n < 12 := by omega
  have t1 : ((n : Int)).toNat = n := rfl
  have t2 : (12 - (n : Int)).toNat = 12 - n := by omega
  rw [t1, t2]
  have e1 : (2 : Int) ^ n = ((2 ^ n : Nat) : Int) := by simp
  have e2 : (2 : Int) ^ (12 - n) = ((2 ^ (12 - n) : Nat) : Int) := by simp
  rw [e1, e2, IntKind.wrap_u16]
  have a1 : (m : Int) / ((2 ^ n : Nat) : Int) = ((m / 2 ^ n : Nat) : Int) := by simp
  have a2 : ((m : Int) * ((2 ^ (12 - n) : Nat) : Int)) % 65536 = ((m * 2 ^ (12 - n) % 65536 : Nat) : Int) := by
    rw [← Int.natCast_mul]; omega
  have b1 : m / 2 ^ n < 65536 := Nat.lt_of_le_of_lt (Nat.div_le_self _ _) (by omega)
  have b2 : m * 2 ^ (12 - n) % 65536 < 65536 := Nat.mod_lt _ (by omega)
  have b3 : m / 2 ^ n ||| m * 2 ^ (12 - n) % 65536 < 2 ^ 16 := Nat.or_lt_two_pow b1 b2
  rw [a1, a2, u16_or_nat _ _ b1 b2]
  exact u16_and_nat _ 4095 b3 (by omega)
theorem keyI_isT {x : Pt} {z : Int} (hz : kyP x = z) (W : World) (ht : TabH W) :
    Calls Tryd.prog 30 #[.agg #[.int .i64 x.s, .int .i64 x.a, .int .i64 x.o]] W fun e w' => e = .returned (.int .i64 z) ∧ Below W.heap.size W w' := by
  subst hz; exact keyI_any _ _ _ W ht
theorem kcI1_any (x : Pt) (w : World) (hv : pvP x = true) (ht : TabH w) :
    Calls Tryd.prog 38 #[.agg #[.int .i64 x.s, .int .i64 x.a, .int .i64 x.o]] w fun e w' => e = .returned (.int .i64 (cls x)) ∧ Below w.heap.size w w' := by
  have hO := Own.start w
  have hF := True.intro
  have hb := keyZ_bd hv
  obtain ⟨z, hz⟩ : ∃ z, kyP x = z := ⟨_, rfl⟩
  have HK := hid (fun W (hW : Below w.heap.size w W) => keyI_isT hz W (ht.below hW))
  have HE := hid (show cls x = z % 12 by unfold cls; rw [hz]; omega)
  have hb' : -2 ≤ z ∧ z ≤ 200 := by unfold kyP at hz; omega
  obtain ⟨z0, z1⟩ := hb'
  have e1 : IntKind.i64.wrap (z + 12) = z + 12 := IntWalk.i64_in _ (by omega)
  have e2 : 0 ≤ z + 12 := by omega
  have e3 : (z + 12).tmod 12 = (z + 12) % 12 := Int.tmod_eq_emod_of_nonneg (by omega)
  clear hb hz ht hv
  go_enter Tryd.func38, Tryd.ntmps38
  go_wp2_with (go_at_call 30; apply own_at hO; (repeat (first | (with_reducible exact hO) | (with_reducible apply Own.alloc) | (with_reducible apply Own.drew) | ((with_reducible apply Own.set_at); (focus (show _ ≤ _; omega))))); have hG := hF; clear hF; clear hO; intro hO; refine own_call hO (fun hB => HK.out _ hB) ?_; clear hO; intro w1 hO; (try simp only [World.size_alloc1, World.size_drew, Nat.reduceAdd] at hO); (try simp only [upd, updI, List.map_cons, List.map_nil, eq_self, if_true, if_false, reduceIte, Nat.add_eq_left, Nat.left_eq_add, Nat.reduceEqDiff, List.set_cons_zero, List.set_cons_succ, hG] at hO); clear hG; have hF := hO; (try simp only [Own, Item.Holds, apartI, CellsAt, Nat.reduceAdd, Nat.zero_add, List.mem_cons, List.not_mem_nil, or_false, forall_eq_or_imp, forall_eq, ne_eq, false_imp_iff, implies_true, and_true] at hF))
  go_ret
  exact ⟨ret_int HE.out.symm, Own.base (by (repeat (first | (with_reducible exact hO) | (with_reducible apply Own.alloc) | (with_reducible apply Own.drew) | ((with_reducible apply Own.set_at); (focus (show _ ≤ _; omega))))))⟩
theorem kcI1_is {x : Pt} {c : Int} (hc : cls x = c) (hv : pvP x = true) (W : World) (ht : TabH W) :
    Calls Tryd.prog 38 #[.agg #[.int .i64 x.s, .int .i64 x.a, .int .i64 x.o]] W fun e w' => e = .returned (.int .i64 c) ∧ Below W.heap.size W w' := by
  subst hc; exact kcI1_any x W hv ht

set_option maxRecDepth 8000 in
set_option maxHeartbeats 4000000 in
theorem clI_any (va : Value) (l : List Pt) (w : World) (hs : SlAt w va l.length 3 (pcC l)) (hn : l.length ≤ 12) (hv : ∀ x ∈ l, pvP x = true) (ht : TabH w) :
    Calls Tryd.prog 19 #[va] w fun e w' => e = .returned (.int .u16 (bmN l l.length)) ∧ Below w.heap.size w w' := by
  have hO := Own.start w
  have hF := True.intro
  obtain ⟨A, c, rfl, nb, hA⟩ := hs.open
  have HA := hid hs
  have HT := hid ht
  have HV := hid hv
  clear hs ht hv
  obtain ⟨n, hnl⟩ : ∃ n, l.length = n := ⟨_, rfl⟩
  have HN := hid hnl
  rw [hnl] at hn nb hA HA ⊢
  clear hnl
  go_enter Tryd.func19, Tryd.ntmps19
  go_wp2_with fail
  (apply own_code hO; (repeat (first | (with_reducible exact hO) | (with_reducible apply Own.alloc) | (with_reducible apply Own.drew) | ((with_reducible apply Own.set_at); (focus (show _ ≤ _; omega))))); have hG := hF; clear hF; clear hO; intro hO; (try simp only [World.size_alloc1, World.size_drew, Nat.reduceAdd] at hO); (try simp only [upd, updI, List.map_cons, List.map_nil, eq_self, if_true, if_false, reduceIte, Nat.add_eq_left, Nat.left_eq_add, Nat.reduceEqDiff, List.set_cons_zero, List.set_cons_succ, hG] at hO); clear hG; have hF := hO; (try simp only [Own, Item.Holds, apartI, CellsAt, Nat.reduceAdd, Nat.zero_add, List.mem_cons, List.not_mem_nil, or_false, forall_eq_or_imp, forall_eq, ne_eq, false_imp_iff, implies_true, and_true] at hF))
  go_loopw [3, 8] (fun s t wr => ∃ j m : Nat, j ≤ n ∧ m < 4096 ∧ t = .int .i64 j ∧ s = .int .u16 m ∧ Hid (m = bmN l j) ∧ Own w.heap.size (Below w.heap.size w) wr []) (fun _ t _ => n - (intOf t).toNat)
  case atStart => exact ⟨0, 0, by omega, by omega, rfl, rfl, (bmN_zero l).symm, hO⟩
  case round =>
    clear hO hF
    obtain ⟨j, m, hj, hm, rfl, rfl, HM, hO⟩ := hrel
    have hF := hO; (try simp only [Own, Item.Holds, apartI, CellsAt, Nat.reduceAdd, Nat.zero_add, List.mem_cons, List.not_mem_nil, or_false, forall_eq_or_imp, forall_eq, ne_eq, false_imp_iff, implies_true, and_true] at hF)
    by_cases he : j = n
    · subst he
      go_wp2_with fail
      go_ret
      exact ⟨by have := HM.out; subst this; rfl, hO.base⟩
    · have hlt : j < n := by omega
      have hlt2 : (j : Int) < n := by omega
      obtain ⟨b, off, rfl, hc1, hc2, hb⟩ := hA (by omega)
      obtain ⟨x, hx⟩ : ∃ x, l[j]? = some x := ⟨_, List.getElem?_eq_getElem (by have := HN.out; omega)⟩
      obtain ⟨d0, d1, d2⟩ := ptAt (HA.out.below hO.base) hx
      have hxv := HV.out x (List.mem_of_getElem? hx)
      have hcb := cls_bd x
      obtain ⟨q, hq⟩ : ∃ q, cls x = q := ⟨_, rfl⟩
      have HC := hid (fun W (hW : Below w.heap.size w W) => kcI1_is hq hxv W (HT.out.below hW))
      rw [hq] at hcb
      obtain ⟨q0, q1⟩ := hcb
      have hM2 := bmN_lt l (j + 1)
      obtain ⟨m2, hm2⟩ : ∃ m2, bmN l (j + 1) = m2 := ⟨_, rfl⟩
      rw [hm2] at hM2
      have E1 := hid (show bits .or .u16 (m : Int) (IntKind.u16.wrap (2 ^ q.toNat)) = (m2 : Int) by
        rw [wrap_pow16 q0 q1, show (2 : Int) ^ q.toNat = ((2 ^ q.toNat : Nat) : Int) by simp, u16_or_nat m _ (by omega) (Nat.lt_of_le_of_lt (Nat.pow_le_pow_right (by omega) (show q.toNat ≤ 11 by omega)) (by omega)), ← hm2, bmN_up hx, hq, ← HM.out])
      have HM2 := hid hm2
      clear he hx hxv hq hm2
      go_wp2_with (go_at_call 38; apply own_at hO; (repeat (first | (with_reducible exact hO) | (with_reducible apply Own.alloc) | (with_reducible apply Own.drew) | ((with_reducible apply Own.set_at); (focus (show _ ≤ _; omega))))); have hG := hF; clear hF; clear hO; intro hO; refine own_call hO (fun hB => HC.out _ hB) ?_; clear hO; intro w1 hO; (try simp only [World.size_alloc1, World.size_drew, Nat.reduceAdd] at hO); (try simp only [upd, updI, List.map_cons, List.map_nil, eq_self, if_true, if_false, reduceIte, Nat.add_eq_left, Nat.left_eq_add, Nat.reduceEqDiff, List.set_cons_zero, List.set_cons_succ, hG] at hO); clear hG; have hF := hO; (try simp only [Own, Item.Holds, apartI, CellsAt, Nat.reduceAdd, Nat.zero_add, List.mem_cons, List.not_mem_nil, or_false, forall_eq_or_imp, forall_eq, ne_eq, false_imp_iff, implies_true, and_true] at hF))
      go_roundw
      case rel => exact ⟨j + 1, m2, by omega, by omega, by go_num, by rw [E1.out], HM2.out.symm, Own.drop hO⟩
      case measure => simp [intOf]; omega

set_option maxHeartbeats 2000000 in
theorem abI_any (x : Pt) (m : Nat) (w : World) (hv : pvP x = true) (hm : m < 4096) (ht : TabH w) :
    Calls Tryd.prog 21 #[.int .u16 m, .agg #[.int .i64 x.s, .int .i64 x.a, .int .i64 x.o]] w fun e w' => e = .returned (.int .u16 (abN m (cls x).toNat)) ∧ Below w.heap.size w w' := by
  have hO := Own.start w
  have hF := True.intro
  have hcb := cls_bd x
  obtain ⟨q, hq⟩ : ∃ q, cls x = q := ⟨_, rfl⟩
  have HC := hid (fun W (hW : Below w.heap.size w W) => kcI1_is hq hv W (ht.below hW))
  rw [hq] at hcb ⊢
  obtain ⟨q0, q1⟩ := hcb
  have HE := hid (ab_key hm q0 q1)
  have e1 : IntKind.i64.wrap (12 - q) = 12 - q := IntWalk.i64_in _ (by omega)
  have e2 : 0 ≤ 12 - q := by omega
  clear hq hv ht
  go_enter Tryd.func21, Tryd.ntmps21
  go_wp2_with (go_at_call 38; apply own_at hO; (repeat (first | (with_reducible exact hO) | (with_reducible apply Own.alloc) | (with_reducible apply Own.drew) | ((with_reducible apply Own.set_at); (focus (show _ ≤ _; omega))))); have hG := hF; clear hF; clear hO; intro hO; refine own_call hO (fun hB => HC.out _ hB) ?_; clear hO; intro w1 hO; (try simp only [World.size_alloc1, World.size_drew, Nat.reduceAdd] at hO); (try simp only [upd, updI, List.map_cons, List.map_nil, eq_self, if_true, if_false, reduceIte, Nat.add_eq_left, Nat.left_eq_add, Nat.reduceEqDiff, List.set_cons_zero, List.set_cons_succ, hG] at hO); clear hG; have hF := hO; (try simp only [Own, Item.Holds, apartI, CellsAt, Nat.reduceAdd, Nat.zero_add, List.mem_cons, List.not_mem_nil, or_false, forall_eq_or_imp, forall_eq, ne_eq, false_imp_iff, implies_true, and_true] at hF))
  apply own_code hO
  (repeat (first | (with_reducible exact hO) | (with_reducible apply Own.alloc) | (with_reducible apply Own.drew) | ((with_reducible apply Own.set_at); (focus (show _ ≤ _; omega)))))
  have hG := hF; clear hF; clear hO; intro hO
  (try simp only [World.size_alloc1, World.size_drew, Nat.reduceAdd] at hO); (try simp only [upd, updI, List.map_cons, List.map_nil, eq_self, if_true, if_false, reduceIte, Nat.add_eq_left, Nat.left_eq_add, Nat.reduceEqDiff, List.set_cons_zero, List.set_cons_succ, hG] at hO); clear hG
  refine region_own (X := fun _ => True) [] (by kernel_rfl) (hO) (trivial) (by first | exact XStab.true | exact XStab.rd | exact XStab.rdIf) ?_
  clear hO
  refine Sim.takeP (i := 0) (d := some 8) (v := ?_) rfl rfl (by kernel_rfl) (by kernel_rfl) (by kernel_rfl) (fun _ _ _ h => h) (by first | exact XStab.true | exact XStab.rd | exact XStab.rdIf) ?_ ?_
  rotate_left
  · first | refine Or.inl ⟨by rfl, fun w => ?_⟩ | (refine Or.inr ⟨by rfl, ?_⟩; with_reducible rfl)
    first | done | (go_simp; all_goals with_reducible rfl)
  try simp only [Act.put, List.setIfInBounds_toArray, List.set_cons_zero, List.set_cons_succ]
  refine Sim.takeP (i := 1) (d := some 9) (v := ?_) rfl rfl (by kernel_rfl) (by kernel_rfl) (by kernel_rfl) (fun _ _ _ h => h) (by first | exact XStab.true | exact XStab.rd | exact XStab.rdIf) ?_ ?_
  rotate_left
  · first | refine Or.inl ⟨by rfl, fun w => ?_⟩ | (refine Or.inr ⟨by rfl, ?_⟩; with_reducible rfl)
    first | done | (go_simp; all_goals with_reducible rfl)
  try simp only [Act.put, List.setIfInBounds_toArray, List.set_cons_zero, List.set_cons_succ]
  refine Sim.takeP (i := 2) (d := some 10) (v := ?_) rfl rfl (by kernel_rfl) (by kernel_rfl) (by kernel_rfl) (fun _ _ _ h => h) (by first | exact XStab.true | exact XStab.rd | exact XStab.rdIf) ?_ ?_
  rotate_left
  · first | refine Or.inl ⟨by rfl, fun w => ?_⟩ | (refine Or.inr ⟨by rfl, ?_⟩; with_reducible rfl)
    first | done | (go_simp; all_goals with_reducible rfl)
  try simp only [Act.put, List.setIfInBounds_toArray, List.set_cons_zero, List.set_cons_succ]
  refine Sim.takeP (i := 3) (d := some 11) (v := ?_) rfl rfl (by kernel_rfl) (by kernel_rfl) (by kernel_rfl) (fun _ _ _ h => h) (by first | exact XStab.true | exact XStab.rd | exact XStab.rdIf) ?_ ?_
  rotate_left
  · first | refine Or.inl ⟨by rfl, fun w => ?_⟩ | (refine Or.inr ⟨by rfl, ?_⟩; with_reducible rfl)
    first | done | (go_simp; all_goals with_reducible rfl)
  try simp only [Act.put, List.setIfInBounds_toArray, List.set_cons_zero, List.set_cons_succ]
  refine Sim.takeP (i := 4) (d := some 12) (v := ?_) rfl rfl (by kernel_rfl) (by kernel_rfl) (by kernel_rfl) (fun _ _ _ h => h) (by first | exact XStab.true | exact XStab.rd | exact XStab.rdIf) ?_ ?_
  rotate_left
  · first | refine Or.inl ⟨by rfl, fun w => ?_⟩ | (refine Or.inr ⟨by rfl, ?_⟩; with_reducible rfl)
    first | done | (go_simp; all_goals with_reducible rfl)
  try simp only [Act.put, List.setIfInBounds_toArray, List.set_cons_zero, List.set_cons_succ]
  refine Sim.takeP (i := 5) (d := some 13) (v := ?_) rfl rfl (by kernel_rfl) (by kernel_rfl) (by kernel_rfl) (fun _ _ _ h => h) (by first | exact XStab.true | exact XStab.rd | exact XStab.rdIf) ?_ ?_
  rotate_left
  · first | refine Or.inl ⟨by rfl, fun w => ?_⟩ | (refine Or.inr ⟨by rfl, ?_⟩; with_reducible rfl)
    first | done | (go_simp; all_goals with_reducible rfl)
  try simp only [Act.put, List.setIfInBounds_toArray, List.set_cons_zero, List.set_cons_succ]
  refine Sim.takeP (i := 6) (d := some 14) (v := ?_) rfl rfl (by kernel_rfl) (by kernel_rfl) (by kernel_rfl) (fun _ _ _ h => h) (by first | exact XStab.true | exact XStab.rd | exact XStab.rdIf) ?_ ?_
  rotate_left
  · first | refine Or.inl ⟨by rfl, fun w => ?_⟩ | (refine Or.inr ⟨by rfl, ?_⟩; with_reducible rfl)
    first | done | (go_simp; all_goals with_reducible rfl)
  try simp only [Act.put, List.setIfInBounds_toArray, List.set_cons_zero, List.set_cons_succ]
  refine Sim.takeP (i := 7) (d := some 15) (v := ?_) rfl rfl (by kernel_rfl) (by kernel_rfl) (by kernel_rfl) (fun _ _ _ h => h) (by first | exact XStab.true | exact XStab.rd | exact XStab.rdIf) ?_ ?_
  rotate_left
  · first | refine Or.inl ⟨by rfl, fun w => ?_⟩ | (refine Or.inr ⟨by rfl, ?_⟩; with_reducible rfl)
    first | done | (go_simp; all_goals with_reducible rfl)
  try simp only [Act.put, List.setIfInBounds_toArray, List.set_cons_zero, List.set_cons_succ]
  refine Sim.takeP (i := 8) (d := some 16) (v := ?_) rfl rfl (by kernel_rfl) (by kernel_rfl) (by kernel_rfl) (fun _ _ _ h => h) (by first | exact XStab.true | exact XStab.rd | exact XStab.rdIf) ?_ ?_
  rotate_left
  · first | refine Or.inl ⟨by rfl, fun w => ?_⟩ | (refine Or.inr ⟨by rfl, ?_⟩; with_reducible rfl)
    first | done | (go_simp; all_goals with_reducible rfl)
  try simp only [Act.put, List.setIfInBounds_toArray, List.set_cons_zero, List.set_cons_succ]
  refine Sim.takeP (i := 9) (d := some 4) (v := ?_) rfl rfl (by kernel_rfl) (by kernel_rfl) (by kernel_rfl) (fun _ _ _ h => h) (by first | exact XStab.true | exact XStab.rd | exact XStab.rdIf) ?_ ?_
  rotate_left
  · first | refine Or.inl ⟨by rfl, fun w => ?_⟩ | (refine Or.inr ⟨by rfl, ?_⟩; with_reducible rfl)
    first | done | (go_simp; all_goals with_reducible rfl)
  try simp only [Act.put, List.setIfInBounds_toArray, List.set_cons_zero, List.set_cons_succ]
  refine Sim.done (by kernel_rfl) (fun w1 hO hX => ?_) _
  (try simp only [World.size_alloc1, World.size_drew, Nat.reduceAdd] at hO); (try simp only [upd, updI, List.map_cons, List.map_nil, eq_self, if_true, if_false, reduceIte, Nat.add_eq_left, Nat.left_eq_add, Nat.reduceEqDiff, List.set_cons_zero, List.set_cons_succ] at hO)
  have hF := hO; (try simp only [Own, Item.Holds, apartI, CellsAt, Nat.reduceAdd, Nat.zero_add, List.mem_cons, List.not_mem_nil, or_false, forall_eq_or_imp, forall_eq, ne_eq, false_imp_iff, implies_true, and_true] at hF)
  go_wp2
  go_ret
  exact ⟨congrArg (fun z => Ending.returned (Value.int .u16 z)) HE.out, hO.base⟩

theorem and_key {m : Nat} (h0 : m ≠ 0) (hm : m < 4096) : bits .and .u16 (m : Int) ((m : Int) - 1) = ((m &&& (m - 1) : Nat) : Int) := by
  rw [show (m : Int) - 1 = ((m - 1 : Nat) : Int) by omega]
  exact u16_and_nat m _ (by omega) (by omega)
theorem as_up {m0 m : Nat} {u : List Int} (h : asL m0 = u ++ asL m) (h0 : m ≠ 0) (hm : m < 4096) : asL m0 = (u ++ [(tzN m : Int)]) ++ asL (m &&& (m - 1)) := by
  rw [h, asL_up h0 hm, List.append_assoc]; rfl
set_option maxRecDepth 8000 in
set_option maxHeartbeats 4000000 in
theorem asI_any (m0 : Nat) (w : World) (hm0 : m0 < 4096) (hT : TabU w) :
    Calls Tryd.prog 31 #[.int .u16 m0] w (RowOut 3 1 (asL m0).length (intC (asL m0)) w) := by
  have hO := (Own.start w).nilRow 3 1
  have hF := True.intro
  have HT := hid hT
  clear hT
  obtain ⟨i0, hi, hz0, hz1, hz2⟩ := info_parts infoI10
  go_enter Tryd.func31, Tryd.ntmps31
  go_wp2_with fail
  go_loopw [0, 3] (fun s v wr => ∃ (m k : Nat) (u : List Int), m < 4096 ∧ k ≤ 12 ∧ s = .int .u16 m ∧ Hid (asL m0 = u ++ asL m ∧ u.length = k) ∧ Own w.heap.size (Below w.heap.size w) wr [.row 3 1 v k (intC u)]) (fun s _ _ => (intOf s).toNat)
  case atStart => exact ⟨m0, 0, [], hm0, by omega, rfl, ⟨rfl, rfl⟩, hO⟩
  case round =>
    clear hO hF hm0
    obtain ⟨m, k, u, hm, hk, rfl, HM, hO⟩ := hrel
    have hF := hO; (try simp only [Own, Item.Holds, apartI, CellsAt, Nat.reduceAdd, Nat.zero_add, List.mem_cons, List.not_mem_nil, or_false, forall_eq_or_imp, forall_eq, ne_eq, false_imp_iff, implies_true, and_true] at hF)
    by_cases he : m = 0
    · subst he
      have HE := hid (show asL m0 = u by rw [HM.out.1, asL_zero, List.append_nil])
      go_wp2_with fail
      go_ret
      rw [HE.out, HM.out.2]
      exact RowOut.mk hO
    · have hz : ((m : Int) == 0) = false := by simp; omega
      obtain ⟨_, _, hlt, _, _⟩ := bit_at he hm
      have HU := hid (as_up HM.out.1 he hm)
      have HA := hid (and_key he hm)
      have HC := hid (fun W (hW : Below w.heap.size w W) => tzI_any m W he hm (HT.out.below hW))
      have m1 : 1 ≤ (m : Int) := by omega
      have m2 : (m : Int) ≤ 4095 := by omega
      have e1 : IntKind.u16.wrap ((m : Int) - 1) = (m : Int) - 1 := by rw [IntKind.wrap_u16]; omega
      have HK := hid (show u.length + 1 ≤ 12 by
        have h1 := asL_len m0
        rw [HU.out] at h1
        simp at h1
        omega)
      have hk12 : k + 1 ≤ 12 := by have := HK.out; have := HM.out.2; omega
      clear he HK
      obtain ⟨z, hzz⟩ : ∃ z, (tzN m : Int) = z := ⟨_, rfl⟩
      rw [hzz] at HU HC
      obtain ⟨m', hm'⟩ : ∃ z, m &&& (m - 1) = z := ⟨_, rfl⟩
      rw [hm'] at HU HA hlt
      clear hzz hm'
      go_wp2_with (first | (go_at_call 47; refine (HC.out _ hO.base).mono ?_; rintro e w1 ⟨rfl, rfl⟩) | (at_builtin; refine wpList_append_item rfl _ _ 33 rfl 3 i0 (.int .i64 0) 1 8 Tryd.underlying33 hi hz0 hz1 hz2 rfl (by decide) rfl rfl (Own.alloc hO) rfl one1t (by unfold maxLen; omega) (by omega) ?_; clear hO hF; intro v' w2 hO _; have hF := True.intro))
      go_roundw
      case rel => exact ⟨m', k + 1, u ++ [z], by omega, by omega, by rw [HA.out], ⟨HU.out, by have := HM.out.2; simp; omega⟩, by rw [show intC (u ++ [z]) = intC u ++ [.int .i64 z] by simp [intC]]; exact hO⟩
      case measure => rw [HA.out]; simp [intOf]; omega

/- Chapter 10 in the program: kinds of sets, lists of valid pitches, tones by their class, the lowest pitch. -/
open Go.RowKit Go.Joins

theorem idx_kin (k : Nat) (h9 : k < 9) (w : World) :
    (Instr.index 56 (.agg #[.int .u16 145, .int .u16 137, .int .u16 73, .int .u16 273, .int .u16 1169, .int .u16 2193, .int .u16 1161, .int .u16 1097, .int .u16 585]) (.int .i64 k)).run Tryd.prog w = .ok (.int .u16 ((kinT.getD k 0 : Nat) : Int)) w := by
  rcases nine h9 with rfl | rfl | rfl | rfl | rfl | rfl | rfl | rfl | rfl
  all_goals kernel_rfl

set_option maxHeartbeats 1000000 in
theorem kdI_any (m : Nat) (w : World) (hT : TabK w) :
    Calls Tryd.prog 20 #[.int .u16 m] w fun e w' => e = .returned (.int .i64 (kdZ m)) ∧ w = w' := by
  have c0 := hT.cell (k := 0) (by omega)
  have c1 := hT.cell (k := 1) (by omega)
  have c2 := hT.cell (k := 2) (by omega)
  have c3 := hT.cell (k := 3) (by omega)
  have c4 := hT.cell (k := 4) (by omega)
  have c5 := hT.cell (k := 5) (by omega)
  have c6 := hT.cell (k := 6) (by omega)
  have c7 := hT.cell (k := 7) (by omega)
  have c8 := hT.cell (k := 8) (by omega)
  rw [show ((kinT.getD 0 0 : Nat) : Int) = 145 by decide] at c0
  rw [show ((kinT.getD 1 0 : Nat) : Int) = 137 by decide] at c1
  rw [show ((kinT.getD 2 0 : Nat) : Int) = 73 by decide] at c2
  rw [show ((kinT.getD 3 0 : Nat) : Int) = 273 by decide] at c3
  rw [show ((kinT.getD 4 0 : Nat) : Int) = 1169 by decide] at c4
  rw [show ((kinT.getD 5 0 : Nat) : Int) = 2193 by decide] at c5
  rw [show ((kinT.getD 6 0 : Nat) : Int) = 1161 by decide] at c6
  rw [show ((kinT.getD 7 0 : Nat) : Int) = 1097 by decide] at c7
  rw [show ((kinT.getD 8 0 : Nat) : Int) = 585 by decide] at c8
  go_enter Tryd.func20, Tryd.ntmps20
  go_wp2
  go_loop [6] (fun i => ∃ k : Nat, k ≤ 9 ∧ i = .int .i64 k ∧ Hid (∀ j : Nat, j < k → kinT.getD j 0 ≠ m)) (fun i => (9 - intOf i).toNat)
  case atStart => exact ⟨0, by omega, rfl, fun j hj => by omega⟩
  case round =>
    obtain ⟨k, hk, rfl, hN⟩ := hrel
    clear hT c0 c1 c2 c3 c4 c5 c6 c7 c8
    by_cases h9 : k = 9
    · subst h9
      go_wp2
      go_ret
      exact ⟨ret_int (kd_miss fun j hj => hN.out j hj).symm, rfl⟩
    · have hlt : k < 9 := by omega
      have hl2 : (k : Int) < 9 := by omega
      have hi : ∀ w' : World, (Instr.index 56 (.agg #[.int .u16 145, .int .u16 137, .int .u16 73, .int .u16 273, .int .u16 1169, .int .u16 2193, .int .u16 1161, .int .u16 1097, .int .u16 585]) (.int .i64 k)).run Tryd.prog w' = .ok (.int .u16 ((kinT.getD k 0 : Nat) : Int)) w' := idx_kin k hlt
      obtain ⟨p, hp⟩ : ∃ p, kinT.getD k 0 = p := ⟨_, rfl⟩
      rw [hp] at hi
      clear h9 hk
      by_cases hb : p = m
      · have HB := hid (kd_hit hlt (hp.trans hb))
        subst hb
        clear hp
        go_wp2
        go_ret
        exact ⟨ret_int HB.out.symm, rfl⟩
      · have HN := hid (show ∀ j : Nat, j < k + 1 → kinT.getD j 0 ≠ m from fun j hj => by
          rcases (show j < k ∨ j = k by omega) with h | rfl
          · exact hN.out j h
          · rw [hp]; exact hb)
        have hb2 : ((p : Int) == (m : Int)) = false := by simp; omega
        have hb3 : ¬ (p : Int) = (m : Int) := by omega
        clear hp hb
        go_wp2
        go_round
        case rel => exact ⟨k + 1, by omega, by go_num, HN⟩
        case measure => simp [intOf]; omega
theorem kdI_is {m : Nat} {k : Int} (h : kdZ m = k) (w : World) (hT : TabK w) : Calls Tryd.prog 20 #[.int .u16 m] w fun e w' => e = .returned (.int .i64 k) ∧ Below w.heap.size w w' := by
  subst h; exact (kdI_any m w hT).mono fun e w' ⟨h1, h2⟩ => ⟨h1, h2 ▸ Below.refl _ _⟩

theorem pvI_at {x : Pt} {b : Bool} (h : pvP x = b) (W : World) :
    Calls Tryd.prog 37 #[.agg #[.int .i64 x.s, .int .i64 x.a, .int .i64 x.o]] W fun e w' => e = .returned (.bool b) ∧ Below W.heap.size W w' := by
  subst h; exact pvI_any x.s x.a x.o W

set_option maxRecDepth 8000 in
set_option maxHeartbeats 4000000 in
theorem lvI_any (va : Value) (l : List Pt) (w : World) (hs : SlAt w va l.length 3 (pcC l)) (hn : l.length ≤ 1048576) :
    Calls Tryd.prog 18 #[va] w fun e w' => e = .returned (.bool (l.all pvP && decide (l.length ≤ 12))) ∧ Below w.heap.size w w' := by
  have hO := Own.start w
  have hF := True.intro
  obtain ⟨A, c, rfl, nb, hA⟩ := hs.open
  have HA := hid hs
  clear hs
  obtain ⟨n, hnl⟩ : ∃ n, l.length = n := ⟨_, rfl⟩
  have HN := hid hnl
  rw [hnl] at hn nb hA HA ⊢
  clear hnl
  by_cases h12 : n ≤ 12
  · have h12' : (n : Int) ≤ 12 := by omega
    have HE := hid (show (l.all pvP && decide (n ≤ 12)) = l.all pvP by rw [decide_eq_true h12, Bool.and_true])
    go_enter Tryd.func18, Tryd.ntmps18
    go_wp2_with fail
    (apply own_code hO; (repeat (first | (with_reducible exact hO) | (with_reducible apply Own.alloc) | (with_reducible apply Own.drew) | ((with_reducible apply Own.set_at); (focus (show _ ≤ _; omega))))); have hG := hF; clear hF; clear hO; intro hO; (try simp only [World.size_alloc1, World.size_drew, Nat.reduceAdd] at hO); (try simp only [upd, updI, List.map_cons, List.map_nil, eq_self, if_true, if_false, reduceIte, Nat.add_eq_left, Nat.left_eq_add, Nat.reduceEqDiff, List.set_cons_zero, List.set_cons_succ, hG] at hO); clear hG; have hF := hO; (try simp only [Own, Item.Holds, apartI, CellsAt, Nat.reduceAdd, Nat.zero_add, List.mem_cons, List.not_mem_nil, or_false, forall_eq_or_imp, forall_eq, ne_eq, false_imp_iff, implies_true, and_true] at hF))
    go_loopw [10] (fun t wr => ∃ j : Nat, j ≤ n ∧ t = .int .i64 j ∧ Hid (∀ (i : Nat) (x : Pt), i < j → l[i]? = some x → pvP x = true) ∧ Own w.heap.size (Below w.heap.size w) wr []) (fun t _ => n - (intOf t).toNat)
    case atStart => exact ⟨0, by omega, rfl, fun i x h => by omega, hO⟩
    case round =>
      clear hO hF
      obtain ⟨j, hj, rfl, hv, hO⟩ := hrel
      have hF := hO; (try simp only [Own, Item.Holds, apartI, CellsAt, Nat.reduceAdd, Nat.zero_add, List.mem_cons, List.not_mem_nil, or_false, forall_eq_or_imp, forall_eq, ne_eq, false_imp_iff, implies_true, and_true] at hF)
      by_cases he : j = n
      · subst he
        have HV := hid (show l.all pvP = true by
          rw [List.all_eq_true]
          intro x hx
          obtain ⟨i, hi, rfl⟩ := List.getElem_of_mem hx
          exact hv.out i _ (by have := HN.out; omega) (List.getElem?_eq_getElem hi))
        go_wp2_with fail
        go_ret
        exact ⟨ret_bool (by rw [HE.out, HV.out]), hO.base⟩
      · have hlt : j < n := by omega
        have hlt2 : (j : Int) < n := by omega
        obtain ⟨b, off, rfl, hc1, hc2, hb⟩ := hA (by omega)
        obtain ⟨x, hx⟩ : ∃ x, l[j]? = some x := ⟨_, List.getElem?_eq_getElem (by have := HN.out; omega)⟩
        obtain ⟨d0, d1, d2⟩ := ptAt (HA.out.below hO.base) hx
        have HX := hid hx
        obtain ⟨d, hd⟩ : ∃ b, pvP x = b := ⟨_, rfl⟩
        have HC := hid (fun W => pvI_at hd W)
        clear he hx
        cases d
        · have HV := hid (show l.all pvP = false by
            rw [← Bool.not_eq_true, List.all_eq_true]
            intro h
            rw [h x (List.mem_of_getElem? HX.out)] at hd
            cases hd)
          clear hd
          go_wp2_with (go_at_call 37; apply own_at hO; (repeat (first | (with_reducible exact hO) | (with_reducible apply Own.alloc) | (with_reducible apply Own.drew) | ((with_reducible apply Own.set_at); (focus (show _ ≤ _; omega))))); have hG := hF; clear hF; clear hO; intro hO; refine own_call hO (fun hB => HC.out _) ?_; clear hO; intro w1 hO; (try simp only [World.size_alloc1, World.size_drew, Nat.reduceAdd] at hO); (try simp only [upd, updI, List.map_cons, List.map_nil, eq_self, if_true, if_false, reduceIte, Nat.add_eq_left, Nat.left_eq_add, Nat.reduceEqDiff, List.set_cons_zero, List.set_cons_succ, hG] at hO); clear hG; have hF := hO; (try simp only [Own, Item.Holds, apartI, CellsAt, Nat.reduceAdd, Nat.zero_add, List.mem_cons, List.not_mem_nil, or_false, forall_eq_or_imp, forall_eq, ne_eq, false_imp_iff, implies_true, and_true] at hF))
          go_ret
          exact ⟨ret_bool (by rw [HE.out, HV.out]), Own.base (by (repeat (first | (with_reducible exact hO) | (with_reducible apply Own.alloc) | (with_reducible apply Own.drew) | ((with_reducible apply Own.set_at); (focus (show _ ≤ _; omega))))))⟩
        · have HB := hid (show ∀ (i : Nat) (z : Pt), i < j + 1 → l[i]? = some z → pvP z = true from fun i z hi hz => by
            rcases (show i < j ∨ i = j by omega) with h | rfl
            · exact hv.out i z h hz
            · rw [HX.out] at hz; cases hz; exact hd)
          clear hd
          go_wp2_with (go_at_call 37; apply own_at hO; (repeat (first | (with_reducible exact hO) | (with_reducible apply Own.alloc) | (with_reducible apply Own.drew) | ((with_reducible apply Own.set_at); (focus (show _ ≤ _; omega))))); have hG := hF; clear hF; clear hO; intro hO; refine own_call hO (fun hB => HC.out _) ?_; clear hO; intro w1 hO; (try simp only [World.size_alloc1, World.size_drew, Nat.reduceAdd] at hO); (try simp only [upd, updI, List.map_cons, List.map_nil, eq_self, if_true, if_false, reduceIte, Nat.add_eq_left, Nat.left_eq_add, Nat.reduceEqDiff, List.set_cons_zero, List.set_cons_succ, hG] at hO); clear hG; have hF := hO; (try simp only [Own, Item.Holds, apartI, CellsAt, Nat.reduceAdd, Nat.zero_add, List.mem_cons, List.not_mem_nil, or_false, forall_eq_or_imp, forall_eq, ne_eq, false_imp_iff, implies_true, and_true] at hF))
          go_roundw
          case rel => exact ⟨j + 1, by omega, by go_num, HB.out, Own.drop hO⟩
          case measure => simp [intOf]; omega
  · have h12' : ¬ (n : Int) ≤ 12 := by omega
    have h12'' : 12 < (n : Int) := by omega
    have HE := hid (show (l.all pvP && decide (n ≤ 12)) = false by rw [decide_eq_false h12, Bool.and_false])
    go_enter Tryd.func18, Tryd.ntmps18
    go_wp2_with fail
    go_ret
    exact ⟨ret_bool (by first | rfl | rw [HE.out]), Own.base (by (repeat (first | (with_reducible exact hO) | (with_reducible apply Own.alloc) | (with_reducible apply Own.drew) | ((with_reducible apply Own.set_at); (focus (show _ ≤ _; omega))))))⟩
theorem lvI_is {va : Value} {l : List Pt} {w : World} {b : Bool} {n : Nat} (hl : l.length = n) (hs : SlAt w va n 3 (pcC l)) (hn : n ≤ 1048576) (hb : (l.all pvP && decide (n ≤ 12)) = b) (W : World) (hW : Below w.heap.size w W) :
    Calls Tryd.prog 18 #[va] W fun e w' => e = .returned (.bool b) ∧ Below W.heap.size W w' := by
  subst hl hb; exact lvI_any va l W (hs.below hW) hn

set_option maxRecDepth 8000 in
set_option maxHeartbeats 4000000 in
theorem tnI_any (va : Value) (l : List Pt) (y : Pt) (w : World) (hs : SlAt w va l.length 3 (pcC l)) (hn : l.length ≤ 1048576) :
    Calls Tryd.prog 23 #[va, .agg #[.int .i64 y.s, .int .i64 y.a, .int .i64 y.o]] w fun e w' => e = .returned (.int .i64 (fsN l y 0)) ∧ Below w.heap.size w w' := by
  have hO := Own.start w
  have hF := True.intro
  obtain ⟨A, c, rfl, nb, hA⟩ := hs.open
  have HA := hid hs
  clear hs
  obtain ⟨n, hnl⟩ : ∃ n, l.length = n := ⟨_, rfl⟩
  have HN := hid hnl
  rw [hnl] at hn nb hA HA
  clear hnl
  go_enter Tryd.func23, Tryd.ntmps23
  rw [HN.out]
  go_wp2_with fail
  (apply own_code hO; (repeat (first | (with_reducible exact hO) | (with_reducible apply Own.alloc) | (with_reducible apply Own.drew) | ((with_reducible apply Own.set_at); (focus (show _ ≤ _; omega))))); have hG := hF; clear hF; clear hO; intro hO; (try simp only [World.size_alloc1, World.size_drew, Nat.reduceAdd] at hO); (try simp only [upd, updI, List.map_cons, List.map_nil, eq_self, if_true, if_false, reduceIte, Nat.add_eq_left, Nat.left_eq_add, Nat.reduceEqDiff, List.set_cons_zero, List.set_cons_succ, hG] at hO); clear hG; have hF := hO; (try simp only [Own, Item.Holds, apartI, CellsAt, Nat.reduceAdd, Nat.zero_add, List.mem_cons, List.not_mem_nil, or_false, forall_eq_or_imp, forall_eq, ne_eq, false_imp_iff, implies_true, and_true] at hF))
  go_loopw [9] (fun t wr => ∃ j : Nat, j ≤ n ∧ t = .int .i64 j ∧ Hid (fsN l y 0 = fsN l y j) ∧ Own w.heap.size (Below w.heap.size w) wr [.blk w.heap.size [.int .i64 y.s, .int .i64 y.a, .int .i64 y.o]]) (fun t _ => n - (intOf t).toNat)
  case atStart => exact ⟨0, by omega, rfl, rfl, hO⟩
  case round =>
    clear hO hF
    obtain ⟨j, hj, rfl, hno, hO⟩ := hrel
    have hF := hO; (try simp only [Own, Item.Holds, apartI, CellsAt, Nat.reduceAdd, Nat.zero_add, List.mem_cons, List.not_mem_nil, or_false, forall_eq_or_imp, forall_eq, ne_eq, false_imp_iff, implies_true, and_true] at hF)
    by_cases he : j = n
    · subst he
      have HE := hid (hno.out.trans (fs_end (by rw [HN.out]; exact Nat.le_refl _)))
      go_wp2_with fail
      go_ret
      exact ⟨ret_int HE.out.symm, hO.base⟩
    · have hlt : j < n := by omega
      have hlt2 : (j : Int) < n := by omega
      obtain ⟨b, off, rfl, hc1, hc2, hb⟩ := hA (by omega)
      obtain ⟨x, hx⟩ : ∃ x, l[j]? = some x := ⟨_, List.getElem?_eq_getElem (by have := HN.out; omega)⟩
      obtain ⟨d0, d1, d2⟩ := ptAt (HA.out.below hO.base) hx
      have HX := hid hx
      have HU := hid (show clB x y = ((x.s == y.s) && (x.a == y.a)) from rfl)
      obtain ⟨b1, h1⟩ : ∃ b, (x.s == y.s) = b := ⟨_, rfl⟩
      obtain ⟨b2, h2⟩ : ∃ b, (x.a == y.a) = b := ⟨_, rfl⟩
      rw [h1, h2] at HU
      clear he hx
      cases b1 <;> cases b2
      case true.true =>
        have HE := hid (hno.out.trans (fs_hit HX.out HU.out))
        go_wp2_with fail
        go_ret
        exact ⟨ret_int HE.out.symm, Own.base (by (repeat (first | (with_reducible exact hO) | (with_reducible apply Own.alloc) | (with_reducible apply Own.drew) | ((with_reducible apply Own.set_at); (focus (show _ ≤ _; omega))))))⟩
      all_goals
        have HE := hid (hno.out.trans (fs_miss HX.out HU.out))
        go_wp2_with fail
        go_roundw
        case rel => exact ⟨j + 1, by omega, by go_num, HE.out, Own.drop (by (repeat (first | (with_reducible exact hO) | (with_reducible apply Own.alloc) | (with_reducible apply Own.drew) | ((with_reducible apply Own.set_at); (focus (show _ ≤ _; omega))))))⟩
        case measure => simp [intOf]; omega
theorem tnI_is {t : List Pt} {y : Pt} {m : Nat} {z : Int} (hm : t.length = m) (hn : m ≤ 1048576) (hz : fsN t y 0 = z) (va : Value) (W : World) (hs : SlAt W va m 3 (pcC t)) :
    Calls Tryd.prog 23 #[va, .agg #[.int .i64 y.s, .int .i64 y.a, .int .i64 y.o]] W fun e w' => e = .returned (.int .i64 z) ∧ Below W.heap.size W w' := by
  subst hm hz; exact tnI_any va t y W hs hn

theorem all_ix {l : List Pt} {p : Pt → Bool} {n : Nat} (hn : l.length = n) (h : ∀ (i : Nat) (x : Pt), i < n → l[i]? = some x → p x = true) : l.all p = true := by
  rw [List.all_eq_true]
  intro x hx
  obtain ⟨i, hi, rfl⟩ := List.getElem_of_mem hx
  exact h i _ (by omega) (List.getElem?_eq_getElem hi)

set_option maxRecDepth 8000 in
set_option maxHeartbeats 4000000 in
theorem saI_any (vt va : Value) (t l : List Pt) (w : World) (ht : SlAt w vt t.length 3 (pcC t)) (hs : SlAt w va l.length 3 (pcC l)) (hm : t.length ≤ 1048576) (hn : l.length ≤ 1048576) :
    Calls Tryd.prog 22 #[vt, va] w fun e w' => e = .returned (.bool (l.all (hasB t))) ∧ Below w.heap.size w w' := by
  have hO := Own.start w
  have hF := True.intro
  obtain ⟨A, c, rfl, nb, hA⟩ := hs.open
  have HA := hid hs
  have HT := hid ht
  obtain ⟨A2, c2, rfl⟩ := ht.form
  clear hs ht
  obtain ⟨n, hnl⟩ : ∃ n, l.length = n := ⟨_, rfl⟩
  obtain ⟨m, hml⟩ : ∃ m, t.length = m := ⟨_, rfl⟩
  have HN := hid hnl
  have HM := hid hml
  rw [hnl] at hn nb hA HA
  rw [hml] at hm HT
  rw [hml]
  rw [hnl]
  clear hnl hml
  go_enter Tryd.func22, Tryd.ntmps22
  go_wp2_with fail
  (apply own_code hO; (repeat (first | (with_reducible exact hO) | (with_reducible apply Own.alloc) | (with_reducible apply Own.drew) | ((with_reducible apply Own.set_at); (focus (show _ ≤ _; omega))))); have hG := hF; clear hF; clear hO; intro hO; (try simp only [World.size_alloc1, World.size_drew, Nat.reduceAdd] at hO); (try simp only [upd, updI, List.map_cons, List.map_nil, eq_self, if_true, if_false, reduceIte, Nat.add_eq_left, Nat.left_eq_add, Nat.reduceEqDiff, List.set_cons_zero, List.set_cons_succ, hG] at hO); clear hG; have hF := hO; (try simp only [Own, Item.Holds, apartI, CellsAt, Nat.reduceAdd, Nat.zero_add, List.mem_cons, List.not_mem_nil, or_false, forall_eq_or_imp, forall_eq, ne_eq, false_imp_iff, implies_true, and_true] at hF))
  go_loopw [9] (fun u wr => ∃ j : Nat, j ≤ n ∧ u = .int .i64 j ∧ Hid (∀ (i : Nat) (x : Pt), i < j → l[i]? = some x → hasB t x = true) ∧ Own w.heap.size (Below w.heap.size w) wr []) (fun u _ => n - (intOf u).toNat)
  case atStart => exact ⟨0, by omega, rfl, fun i x h => by omega, hO⟩
  case round =>
    clear hO hF
    obtain ⟨j, hj, rfl, hv, hO⟩ := hrel
    have hF := hO; (try simp only [Own, Item.Holds, apartI, CellsAt, Nat.reduceAdd, Nat.zero_add, List.mem_cons, List.not_mem_nil, or_false, forall_eq_or_imp, forall_eq, ne_eq, false_imp_iff, implies_true, and_true] at hF)
    by_cases he : j = n
    · subst he
      have HV := hid (show l.all (hasB t) = true from all_ix HN.out hv.out)
      go_wp2_with fail
      go_ret
      exact ⟨ret_bool HV.out.symm, hO.base⟩
    · have hlt : j < n := by omega
      have hlt2 : (j : Int) < n := by omega
      obtain ⟨b, off, rfl, hc1, hc2, hb⟩ := hA (by omega)
      obtain ⟨x, hx⟩ : ∃ x, l[j]? = some x := ⟨_, List.getElem?_eq_getElem (by have := HN.out; omega)⟩
      obtain ⟨d0, d1, d2⟩ := ptAt (HA.out.below hO.base) hx
      have HX := hid hx
      obtain ⟨z, hz⟩ : ∃ z, fsN t x 0 = z := ⟨_, rfl⟩
      have HC := hid (fun W (hW : Below w.heap.size w W) => tnI_is HM.out hm hz _ W (HT.out.below hW))
      clear he hx
      cases hd : hasB t x
      · have hz1 := fs_none.2 hd
        rw [hz] at hz1
        subst hz1
        have HV := hid (show l.all (hasB t) = false by
          rw [← Bool.not_eq_true, List.all_eq_true]
          intro h
          rw [h x (List.mem_of_getElem? HX.out)] at hd
          cases hd)
        clear hd hz
        go_wp2_with (go_at_call 23; apply own_at hO; (repeat (first | (with_reducible exact hO) | (with_reducible apply Own.alloc) | (with_reducible apply Own.drew) | ((with_reducible apply Own.set_at); (focus (show _ ≤ _; omega))))); have hG := hF; clear hF; clear hO; intro hO; refine own_call hO (fun hB => HC.out _ hB) ?_; clear hO; intro w1 hO; (try simp only [World.size_alloc1, World.size_drew, Nat.reduceAdd] at hO); (try simp only [upd, updI, List.map_cons, List.map_nil, eq_self, if_true, if_false, reduceIte, Nat.add_eq_left, Nat.left_eq_add, Nat.reduceEqDiff, List.set_cons_zero, List.set_cons_succ, hG] at hO); clear hG; have hF := hO; (try simp only [Own, Item.Holds, apartI, CellsAt, Nat.reduceAdd, Nat.zero_add, List.mem_cons, List.not_mem_nil, or_false, forall_eq_or_imp, forall_eq, ne_eq, false_imp_iff, implies_true, and_true] at hF))
        go_ret
        exact ⟨ret_bool HV.out.symm, Own.base (by (repeat (first | (with_reducible exact hO) | (with_reducible apply Own.alloc) | (with_reducible apply Own.drew) | ((with_reducible apply Own.set_at); (focus (show _ ≤ _; omega))))))⟩
      · obtain ⟨i, _, hi, _⟩ := fs_has hd
        rw [hz] at hi
        subst hi
        have hne : ((i : Int) == -1) = false := by simp
        have HB := hid (show ∀ (i : Nat) (z : Pt), i < j + 1 → l[i]? = some z → hasB t z = true from fun i z hi hz => by
          rcases (show i < j ∨ i = j by omega) with h | rfl
          · exact hv.out i z h hz
          · rw [HX.out] at hz; cases hz; exact hd)
        clear hd hz
        go_wp2_with (go_at_call 23; apply own_at hO; (repeat (first | (with_reducible exact hO) | (with_reducible apply Own.alloc) | (with_reducible apply Own.drew) | ((with_reducible apply Own.set_at); (focus (show _ ≤ _; omega))))); have hG := hF; clear hF; clear hO; intro hO; refine own_call hO (fun hB => HC.out _ hB) ?_; clear hO; intro w1 hO; (try simp only [World.size_alloc1, World.size_drew, Nat.reduceAdd] at hO); (try simp only [upd, updI, List.map_cons, List.map_nil, eq_self, if_true, if_false, reduceIte, Nat.add_eq_left, Nat.left_eq_add, Nat.reduceEqDiff, List.set_cons_zero, List.set_cons_succ, hG] at hO); clear hG; have hF := hO; (try simp only [Own, Item.Holds, apartI, CellsAt, Nat.reduceAdd, Nat.zero_add, List.mem_cons, List.not_mem_nil, or_false, forall_eq_or_imp, forall_eq, ne_eq, false_imp_iff, implies_true, and_true] at hF))
        go_roundw
        case rel => exact ⟨j + 1, by omega, by go_num, HB.out, Own.drop hO⟩
        case measure => simp [intOf]; omega
theorem saI_is {t l : List Pt} {m n : Nat} {b : Bool} (hm : t.length = m) (hn : l.length = n) (h1 : m ≤ 1048576) (h2 : n ≤ 1048576) (hb : l.all (hasB t) = b) (vt va : Value) (W : World) (hs : SlAt W va n 3 (pcC l)) (ht : SlAt W vt m 3 (pcC t)) :
    Calls Tryd.prog 22 #[vt, va] W fun e w' => e = .returned (.bool b) ∧ Below W.heap.size W w' := by
  subst hm hn hb; exact saI_any vt va t l W ht hs h1 h2

set_option maxRecDepth 8000 in
set_option maxHeartbeats 4000000 in
theorem loI_any (va : Value) (l : List Pt) (w : World) (hs : SlAt w va l.length 3 (pcC l)) (hn : l.length ≤ 1048576) (h0 : 0 < l.length) (ht : TabH w) (y : Pt) (hy : l[lowN l l.length]? = some y) :
    Calls Tryd.prog 24 #[va] w fun e w' => e = .returned (.agg #[.int .i64 y.s, .int .i64 y.a, .int .i64 y.o]) ∧ Below w.heap.size w w' := by
  have hO := Own.start w
  have hF := True.intro
  obtain ⟨A, c, rfl, nb, hA⟩ := hs.open
  have HA := hid hs
  have HT := hid ht
  clear hs ht
  obtain ⟨n, hnl⟩ : ∃ n, l.length = n := ⟨_, rfl⟩
  have HN := hid hnl
  rw [hnl] at hn nb hA HA h0 hy ⊢
  have HY := hid hy
  clear hnl hy
  obtain ⟨b, off, rfl, hc1, hc2, hb⟩ := hA h0
  obtain ⟨f, hf⟩ : ∃ f, l[0]? = some f := ⟨_, List.getElem?_eq_getElem (by have := HN.out; omega)⟩
  have h0' : (0 : Int) < n := by omega
  have ⟨d0, d1, d2⟩ := ptAt (j := 0) HA.out hf
  rw [show off + 0 * 3 = off by omega] at d0 d1 d2
  go_enter Tryd.func24, Tryd.ntmps24
  go_wp2_with fail
  (apply own_code hO; (repeat (first | (with_reducible exact hO) | (with_reducible apply Own.alloc) | (with_reducible apply Own.drew) | ((with_reducible apply Own.set_at); (focus (show _ ≤ _; omega))))); have hG := hF; clear hF; clear hO; intro hO; (try simp only [World.size_alloc1, World.size_drew, Nat.reduceAdd] at hO); (try simp only [upd, updI, List.map_cons, List.map_nil, eq_self, if_true, if_false, reduceIte, Nat.add_eq_left, Nat.left_eq_add, Nat.reduceEqDiff, List.set_cons_zero, List.set_cons_succ, hG] at hO); clear hG; have hF := hO; (try simp only [Own, Item.Holds, apartI, CellsAt, Nat.reduceAdd, Nat.zero_add, List.mem_cons, List.not_mem_nil, or_false, forall_eq_or_imp, forall_eq, ne_eq, false_imp_iff, implies_true, and_true] at hF))
  go_loopw [11] (fun u wr => ∃ (j : Nat) (p : Pt), j ≤ n ∧ u = .int .i64 j ∧ Hid (l[lowN l j]? = some p) ∧ Own w.heap.size (Below w.heap.size w) wr [.blk (w.heap.size + 1) [.int .i64 p.s, .int .i64 p.a, .int .i64 p.o], .blk w.heap.size [.int .i64 0, .int .i64 0, .int .i64 0]]) (fun u _ => n - (intOf u).toNat)
  case atStart => exact ⟨0, f, by omega, rfl, hf, hO⟩
  case round =>
    clear hO hF d0 d1 d2 hf
    obtain ⟨j, p, hj, rfl, hP, hO⟩ := hrel
    have hF := hO; (try simp only [Own, Item.Holds, apartI, CellsAt, Nat.reduceAdd, Nat.zero_add, List.mem_cons, List.not_mem_nil, or_false, forall_eq_or_imp, forall_eq, ne_eq, false_imp_iff, implies_true, and_true] at hF)
    by_cases he : j = n
    · subst he
      have hyp : p = y := by
        have h1 := hP.out
        rw [HY.out] at h1
        exact (Option.some.inj h1).symm
      subst hyp
      go_wp2_with fail
      apply own_end hO
      (repeat (first | (with_reducible exact hO) | (with_reducible apply Own.alloc) | (with_reducible apply Own.drew) | ((with_reducible apply Own.set_at); (focus (show _ ≤ _; omega)))))
      have hG := hF; clear hF; clear hO; intro hO
      refine own_ret (v := .agg #[.int .i64 p.s, .int .i64 p.a, .int .i64 p.o]) hO ?_ rfl (fun hO => ⟨rfl, hO.base⟩)
      clear hO; intro w1 hO
      (try simp only [World.size_alloc1, World.size_drew, Nat.reduceAdd] at hO); (try simp only [upd, updI, List.map_cons, List.map_nil, eq_self, if_true, if_false, reduceIte, Nat.add_eq_left, Nat.left_eq_add, Nat.reduceEqDiff, List.set_cons_zero, List.set_cons_succ, hG] at hO); clear hG
      have hF := hO; (try simp only [Own, Item.Holds, apartI, CellsAt, Nat.reduceAdd, Nat.zero_add, List.mem_cons, List.not_mem_nil, or_false, forall_eq_or_imp, forall_eq, ne_eq, false_imp_iff, implies_true, and_true] at hF)
      simp [results, Tryd.results24, go_sem, hF]
    · have hlt : j < n := by omega
      have hlt2 : (j : Int) < n := by omega
      obtain ⟨x, hx⟩ : ∃ x, l[j]? = some x := ⟨_, List.getElem?_eq_getElem (by have := HN.out; omega)⟩
      obtain ⟨d0, d1, d2⟩ := ptAt (HA.out.below hO.base) hx
      have HX := hid hx
      obtain ⟨z1, hz1⟩ : ∃ z, kyP x = z := ⟨_, rfl⟩
      obtain ⟨z2, hz2⟩ : ∃ z, kyP p = z := ⟨_, rfl⟩
      have HU := hid (low_up hx hP.out hz1 hz2)
      have HK1 := hid (fun W (hW : Below w.heap.size w W) => keyI_isT hz1 W (HT.out.below hW))
      have HK2 := hid (fun W (hW : Below w.heap.size w W) => keyI_isT hz2 W (HT.out.below hW))
      clear he hx hz1 hz2
      by_cases hc : z1 < z2
      · have HU2 := hid (show l[lowN l (j + 1)]? = some x by rw [HU.out, if_pos hc]; exact HX.out)
        go_wp2_with fail
        apply own_code hO
        (repeat (first | (with_reducible exact hO) | (with_reducible apply Own.alloc) | (with_reducible apply Own.drew) | ((with_reducible apply Own.set_at); (focus (show _ ≤ _; omega)))))
        have hG := hF; clear hF; clear hO; intro hO
        (try simp only [World.size_alloc1, World.size_drew, Nat.reduceAdd] at hO); (try simp only [upd, updI, List.map_cons, List.map_nil, eq_self, if_true, if_false, reduceIte, Nat.add_eq_left, Nat.left_eq_add, Nat.reduceEqDiff, List.set_cons_zero, List.set_cons_succ, hG] at hO); clear hG
        refine region_own (X := fun _ => True) [] (by kernel_rfl) (hO) (trivial) (by first | exact XStab.true | exact XStab.rd | exact XStab.rdIf) ?_
        clear hO
        refine Sim.take (i := 0) (d := some 15) (v := ?_) rfl rfl (by kernel_rfl) (by kernel_rfl) (by kernel_rfl) (by kernel_rfl) (fun _ _ _ h => h) (by first | exact XStab.true | exact XStab.rd | exact XStab.rdIf) ?_ ?_
        rotate_left
        · first | refine Or.inl ⟨by rfl, fun w hO => ?_⟩ | (refine Or.inr ⟨by rfl, ?_⟩; with_reducible rfl)
          first | done | (have hF := hO; (try simp only [Own, Item.Holds, apartI, CellsAt, Nat.reduceAdd, Nat.zero_add, List.mem_cons, List.not_mem_nil, or_false, forall_eq_or_imp, forall_eq, ne_eq, false_imp_iff, implies_true, and_true] at hF); refine Out.same ?_; go_simp; all_goals with_reducible rfl)
        try simp only [Act.put, List.setIfInBounds_toArray, List.set_cons_zero, List.set_cons_succ]
        refine Sim.take (i := 1) (d := some 16) (v := ?_) rfl rfl (by kernel_rfl) (by kernel_rfl) (by kernel_rfl) (by kernel_rfl) (fun _ _ _ h => h) (by first | exact XStab.true | exact XStab.rd | exact XStab.rdIf) ?_ ?_
        rotate_left
        · first | refine Or.inl ⟨by rfl, fun w hO => ?_⟩ | (refine Or.inr ⟨by rfl, ?_⟩; with_reducible rfl)
          first | done | (refine Out.call (f := 30) (args := ?_) ?_ ?_; rotate_left; (focus (go_simp; all_goals with_reducible rfl)); exact HK1.out _ hO.base)
        try simp only [Act.put, List.setIfInBounds_toArray, List.set_cons_zero, List.set_cons_succ]
        refine Sim.take (i := 2) (d := some 17) (v := ?_) rfl rfl (by kernel_rfl) (by kernel_rfl) (by kernel_rfl) (by kernel_rfl) (fun _ _ _ h => h) (by first | exact XStab.true | exact XStab.rd | exact XStab.rdIf) ?_ ?_
        rotate_left
        · first | refine Or.inl ⟨by rfl, fun w hO => ?_⟩ | (refine Or.inr ⟨by rfl, ?_⟩; with_reducible rfl)
          first | done | (have hF := hO; (try simp only [Own, Item.Holds, apartI, CellsAt, Nat.reduceAdd, Nat.zero_add, List.mem_cons, List.not_mem_nil, or_false, forall_eq_or_imp, forall_eq, ne_eq, false_imp_iff, implies_true, and_true] at hF); refine Out.same ?_; go_simp; all_goals with_reducible rfl)
        try simp only [Act.put, List.setIfInBounds_toArray, List.set_cons_zero, List.set_cons_succ]
        refine Sim.take (i := 3) (d := some 18) (v := ?_) rfl rfl (by kernel_rfl) (by kernel_rfl) (by kernel_rfl) (by kernel_rfl) (fun _ _ _ h => h) (by first | exact XStab.true | exact XStab.rd | exact XStab.rdIf) ?_ ?_
        rotate_left
        · first | refine Or.inl ⟨by rfl, fun w hO => ?_⟩ | (refine Or.inr ⟨by rfl, ?_⟩; with_reducible rfl)
          first | done | (refine Out.call (f := 30) (args := ?_) ?_ ?_; rotate_left; (focus (go_simp; all_goals with_reducible rfl)); exact HK2.out _ hO.base)
        try simp only [Act.put, List.setIfInBounds_toArray, List.set_cons_zero, List.set_cons_succ]
        refine Sim.takeP (i := 4) (d := some 19) (v := ?_) rfl rfl (by kernel_rfl) (by kernel_rfl) (by kernel_rfl) (fun _ _ _ h => h) (by first | exact XStab.true | exact XStab.rd | exact XStab.rdIf) ?_ ?_
        rotate_left
        · first | refine Or.inl ⟨by rfl, fun w => ?_⟩ | (refine Or.inr ⟨by rfl, ?_⟩; with_reducible rfl)
          first | done | (go_simp; all_goals with_reducible rfl)
        try simp only [Act.put, List.setIfInBounds_toArray, List.set_cons_zero, List.set_cons_succ]
        refine Sim.done (by kernel_rfl) (fun w1 hO hX => ?_) _
        (try simp only [World.size_alloc1, World.size_drew, Nat.reduceAdd] at hO); (try simp only [upd, updI, List.map_cons, List.map_nil, eq_self, if_true, if_false, reduceIte, Nat.add_eq_left, Nat.left_eq_add, Nat.reduceEqDiff, List.set_cons_zero, List.set_cons_succ] at hO)
        have hF := hO; (try simp only [Own, Item.Holds, apartI, CellsAt, Nat.reduceAdd, Nat.zero_add, List.mem_cons, List.not_mem_nil, or_false, forall_eq_or_imp, forall_eq, ne_eq, false_imp_iff, implies_true, and_true] at hF)
        all_goals
          go_wp2
          go_roundw
          case rel =>
            refine ⟨j + 1, x, by omega, by go_num, HU2.out, ?_⟩
            have h3 := Own.set_at (b := w.heap.size + 1) (i := 2) (u := .int .i64 x.o) (Nat.le_succ _) (Own.set_at (b := w.heap.size + 1) (i := 1) (u := .int .i64 x.a) (Nat.le_succ _) (Own.set_at (b := w.heap.size + 1) (i := 0) (u := .int .i64 x.s) (Nat.le_succ _) hO.2))
            exact Own.cast h3 (by simp [upd, updI])
          case measure => simp [intOf]; omega
      · have HU2 := hid (show l[lowN l (j + 1)]? = some p by rw [HU.out, if_neg hc]; exact hP.out)
        go_wp2_with fail
        apply own_code hO
        (repeat (first | (with_reducible exact hO) | (with_reducible apply Own.alloc) | (with_reducible apply Own.drew) | ((with_reducible apply Own.set_at); (focus (show _ ≤ _; omega)))))
        have hG := hF; clear hF; clear hO; intro hO
        (try simp only [World.size_alloc1, World.size_drew, Nat.reduceAdd] at hO); (try simp only [upd, updI, List.map_cons, List.map_nil, eq_self, if_true, if_false, reduceIte, Nat.add_eq_left, Nat.left_eq_add, Nat.reduceEqDiff, List.set_cons_zero, List.set_cons_succ, hG] at hO); clear hG
        refine region_own (X := fun _ => True) [] (by kernel_rfl) (hO) (trivial) (by first | exact XStab.true | exact XStab.rd | exact XStab.rdIf) ?_
        clear hO
        refine Sim.take (i := 0) (d := some 15) (v := ?_) rfl rfl (by kernel_rfl) (by kernel_rfl) (by kernel_rfl) (by kernel_rfl) (fun _ _ _ h => h) (by first | exact XStab.true | exact XStab.rd | exact XStab.rdIf) ?_ ?_
        rotate_left
        · first | refine Or.inl ⟨by rfl, fun w hO => ?_⟩ | (refine Or.inr ⟨by rfl, ?_⟩; with_reducible rfl)
          first | done | (have hF := hO; (try simp only [Own, Item.Holds, apartI, CellsAt, Nat.reduceAdd, Nat.zero_add, List.mem_cons, List.not_mem_nil, or_false, forall_eq_or_imp, forall_eq, ne_eq, false_imp_iff, implies_true, and_true] at hF); refine Out.same ?_; go_simp; all_goals with_reducible rfl)
        try simp only [Act.put, List.setIfInBounds_toArray, List.set_cons_zero, List.set_cons_succ]
        refine Sim.take (i := 1) (d := some 16) (v := ?_) rfl rfl (by kernel_rfl) (by kernel_rfl) (by kernel_rfl) (by kernel_rfl) (fun _ _ _ h => h) (by first | exact XStab.true | exact XStab.rd | exact XStab.rdIf) ?_ ?_
        rotate_left
        · first | refine Or.inl ⟨by rfl, fun w hO => ?_⟩ | (refine Or.inr ⟨by rfl, ?_⟩; with_reducible rfl)
          first | done | (refine Out.call (f := 30) (args := ?_) ?_ ?_; rotate_left; (focus (go_simp; all_goals with_reducible rfl)); exact HK1.out _ hO.base)
        try simp only [Act.put, List.setIfInBounds_toArray, List.set_cons_zero, List.set_cons_succ]
        refine Sim.take (i := 2) (d := some 17) (v := ?_) rfl rfl (by kernel_rfl) (by kernel_rfl) (by kernel_rfl) (by kernel_rfl) (fun _ _ _ h => h) (by first | exact XStab.true | exact XStab.rd | exact XStab.rdIf) ?_ ?_
        rotate_left
        · first | refine Or.inl ⟨by rfl, fun w hO => ?_⟩ | (refine Or.inr ⟨by rfl, ?_⟩; with_reducible rfl)
          first | done | (have hF := hO; (try simp only [Own, Item.Holds, apartI, CellsAt, Nat.reduceAdd, Nat.zero_add, List.mem_cons, List.not_mem_nil, or_false, forall_eq_or_imp, forall_eq, ne_eq, false_imp_iff, implies_true, and_true] at hF); refine Out.same ?_; go_simp; all_goals with_reducible rfl)
        try simp only [Act.put, List.setIfInBounds_toArray, List.set_cons_zero, List.set_cons_succ]
        refine Sim.take (i := 3) (d := some 18) (v := ?_) rfl rfl (by kernel_rfl) (by kernel_rfl) (by kernel_rfl) (by kernel_rfl) (fun _ _ _ h => h) (by first | exact XStab.true | exact XStab.rd | exact XStab.rdIf) ?_ ?_
        rotate_left
        · first | refine Or.inl ⟨by rfl, fun w hO => ?_⟩ | (refine Or.inr ⟨by rfl, ?_⟩; with_reducible rfl)
          first | done | (refine Out.call (f := 30) (args := ?_) ?_ ?_; rotate_left; (focus (go_simp; all_goals with_reducible rfl)); exact HK2.out _ hO.base)
        try simp only [Act.put, List.setIfInBounds_toArray, List.set_cons_zero, List.set_cons_succ]
        refine Sim.takeP (i := 4) (d := some 19) (v := ?_) rfl rfl (by kernel_rfl) (by kernel_rfl) (by kernel_rfl) (fun _ _ _ h => h) (by first | exact XStab.true | exact XStab.rd | exact XStab.rdIf) ?_ ?_
        rotate_left
        · first | refine Or.inl ⟨by rfl, fun w => ?_⟩ | (refine Or.inr ⟨by rfl, ?_⟩; with_reducible rfl)
          first | done | (go_simp; all_goals with_reducible rfl)
        try simp only [Act.put, List.setIfInBounds_toArray, List.set_cons_zero, List.set_cons_succ]
        refine Sim.done (by kernel_rfl) (fun w1 hO hX => ?_) _
        (try simp only [World.size_alloc1, World.size_drew, Nat.reduceAdd] at hO); (try simp only [upd, updI, List.map_cons, List.map_nil, eq_self, if_true, if_false, reduceIte, Nat.add_eq_left, Nat.left_eq_add, Nat.reduceEqDiff, List.set_cons_zero, List.set_cons_succ] at hO)
        have hF := hO; (try simp only [Own, Item.Holds, apartI, CellsAt, Nat.reduceAdd, Nat.zero_add, List.mem_cons, List.not_mem_nil, or_false, forall_eq_or_imp, forall_eq, ne_eq, false_imp_iff, implies_true, and_true] at hF)
        all_goals
          go_wp2
          go_roundw
          case rel => exact ⟨j + 1, p, by omega, by go_num, HU2.out, Own.drop (by (repeat (first | (with_reducible exact hO) | (with_reducible apply Own.alloc) | (with_reducible apply Own.drew) | ((with_reducible apply Own.set_at); (focus (show _ ≤ _; omega))))))⟩
          case measure => simp [intOf]; omega
end Go.Proofs.YtikkcehjfcfcdaaDoor
