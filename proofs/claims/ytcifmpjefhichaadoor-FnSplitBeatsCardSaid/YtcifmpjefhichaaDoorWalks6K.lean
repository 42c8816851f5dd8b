/- Chapter 6 in the program: voices divided at bars, by an iterator over pieces. -/
import Derived.Test.YtcifmpjefhichaaDoorWalks6I
import Derived.Test.YtcifmpjefhichaaDoorWalks6S
import Derived.Test.YtcifmpjefhichaaDoorRangeOwn
namespace Go.Proofs.YtcifmpjefhichaaDoor
set_option linter.unusedSimpArgs false
set_option linter.unusedVariables false
open Go.RowKit
attribute [local go_sem] Oper.semAt_some

set_option maxHeartbeats 4000000 in
theorem fpI_any (r : Bool) (s a o t m : Int) (y : Bool) (T : Int) (Y : Bool) (hT : (t ≤ m → T = t ∧ Y = y) ∧ (m < t → T = m ∧ Y = !r)) (w : World) :
    Calls Tryd.prog 71 #[.agg #[.bool r, .int .i64 s, .int .i64 a, .int .i64 o, .int .i64 t, .bool y], .int .i64 m] w fun e w' =>
      e = .returned (.agg #[.bool r, .int .i64 s, .int .i64 a, .int .i64 o, .int .i64 T, .bool Y]) ∧ Below w.heap.size w w' := by
  have hO := Own.start w
  have hF := True.intro
  by_cases h : t ≤ m
  · obtain ⟨rfl, rfl⟩ := hT.1 h
    clear hT
    go_enter Tryd.func71, Tryd.ntmps71
    go_wp2_with fail
    apply own_end hO
    (repeat (first | (with_reducible exact hO) | (with_reducible apply Own.alloc) | (with_reducible apply Own.drew) | ((with_reducible apply Own.set_at); (focus (show _ ≤ _; omega)))))
    have hG := hF; clear hF; clear hO; intro hO
    refine own_ret (v := .agg #[.bool r, .int .i64 s, .int .i64 a, .int .i64 o, .int .i64 T, .bool Y]) hO ?_ rfl (fun hO => ⟨rfl, hO.base⟩)
    clear hO; intro w1 hO
    (try simp only [World.size_alloc1, World.size_drew, Nat.reduceAdd] at hO); (try simp only [upd, updI, List.map_cons, List.map_nil, eq_self, if_true, if_false, reduceIte, Nat.add_eq_left, Nat.left_eq_add, Nat.reduceEqDiff, List.set_cons_zero, List.set_cons_succ, hG] at hO); clear hG
    have hF := hO; (try simp only [Own, Item.Holds, apartI, CellsAt, Nat.reduceAdd, Nat.zero_add, List.mem_cons, List.not_mem_nil, or_false, forall_eq_or_imp, forall_eq, ne_eq, false_imp_iff, implies_true, and_true] at hF)
    simp [results, Tryd.results71, go_sem, hF]
  · obtain ⟨rfl, rfl⟩ := hT.2 (by omega)
    have h2 : ¬ t ≤ T := h
    have h3 : T < t := by omega
    clear hT
    go_enter Tryd.func71, Tryd.ntmps71
    go_wp2_with fail
    apply own_end hO
    (repeat (first | (with_reducible exact hO) | (with_reducible apply Own.alloc) | (with_reducible apply Own.drew) | ((with_reducible apply Own.set_at); (focus (show _ ≤ _; omega)))))
    have hG := hF; clear hF; clear hO; intro hO
    refine own_ret (v := .agg #[.bool r, .int .i64 s, .int .i64 a, .int .i64 o, .int .i64 T, .bool (!r)]) hO ?_ rfl (fun hO => ⟨rfl, hO.base⟩)
    clear hO; intro w1 hO
    (try simp only [World.size_alloc1, World.size_drew, Nat.reduceAdd] at hO); (try simp only [upd, updI, List.map_cons, List.map_nil, eq_self, if_true, if_false, reduceIte, Nat.add_eq_left, Nat.left_eq_add, Nat.reduceEqDiff, List.set_cons_zero, List.set_cons_succ, hG] at hO); clear hG
    have hF := hO; (try simp only [Own, Item.Holds, apartI, CellsAt, Nat.reduceAdd, Nat.zero_add, List.mem_cons, List.not_mem_nil, or_false, forall_eq_or_imp, forall_eq, ne_eq, false_imp_iff, implies_true, and_true] at hF)
    simp [results, Tryd.results71, go_sem, hF]

/-- barPieces hands back its iterator, which has caught a voice and a number. -/
theorem bpI_any {n : Nat} {B : World → Prop} {W : World} {L : List Item} {K : Ending → World → Prop} (A : Option Addr) (k c : Nat) (p : Int) (hO : Own n B W L)
    (h : ∀ q1 q2 w1, Own n B w1 (.blk q1 [.int .i64 p] :: .blk q2 [.slice A k c] :: L) → K (.returned (.func (.func 70) #[] #[.pointer (some ⟨q1, 0, none⟩), .pointer (some ⟨q2, 0, none⟩)])) w1) :
    Calls Tryd.prog 54 #[.slice A k c, .int .i64 p] W K := by
  have hmf : ∀ (fn : Fn) (first cap : Array Value) (w : World), (Instr.makeFunc fn first cap).run Tryd.prog w = .ok (.func fn first cap) w := fun _ _ _ _ => rfl
  have hO2 := (hO.alloc (t := 37) (vs := [.slice A k c])).alloc (t := 3) (vs := [.int .i64 p])
  simp only [World.size_alloc1] at hO2
  go_enter Tryd.func54, Tryd.ntmps54
  go_wp2_with fail
  exact hO2

theorem pc_parts {p A left : Int} {x : Nt} (hp : 1 ≤ p) (hl : 1 ≤ left) : (left ≤ p - A % p → pcN p A left = left ∧ (pcX p A left x).y = x.y) ∧ (p - A % p < left → pcN p A left = p - A % p ∧ (pcX p A left x).y = !x.r) := by
  have hb := pc_bd (at' := A) hp hl
  have hm := min_pc (p := p) (at' := A) (left := left)
  refine ⟨fun h => ?_, fun h => ?_⟩
  · have e : pcN p A left = left := by rw [hm]; split <;> omega
    exact ⟨e, pc_last (by omega)⟩
  · have e : pcN p A left = p - A % p := by rw [hm]; split <;> omega
    exact ⟨e, pc_more (by omega)⟩
/-- the room that is left in a bar. -/
theorem room_go {p A P : Int} (hp : 1 ≤ p) (_ : 1 ≤ P) (hP2 : P ≤ p - A % p) : (P = p - A % p → p - (A + P) % p = p) ∧ (P < p - A % p → p - (A + P) % p = p - A % p - P) := by
  have h0 := Int.emod_nonneg A (show p ≠ 0 by omega)
  refine ⟨fun h => ?_, fun h => ?_⟩
  · have e : (A + P) % p = 0 := by
      have h1 := Int.mul_ediv_add_emod A p
      rw [show A + P = p * (A / p + 1) by rw [Int.mul_add]; omega]
      exact Int.mul_emod_right _ _
    omega
  · have e : (A + P) % p = A % p + P := by
      have h2 : P % p = P := Int.emod_eq_of_lt (by omega) (by omega)
      rw [Int.add_emod, h2]
      exact Int.emod_eq_of_lt (by omega) (by omega)
    omega

abbrev ntV (x : Nt) : Value := .agg #[.bool x.r, .int .i64 x.s, .int .i64 x.a, .int .i64 x.o, .int .i64 x.t, .bool x.y]
theorem sp_pre {p : Int} {v : List Nt} {j : Nat} {x : Nt} {R done : List Nt} {A left : Int} (hx : v[j]? = some x) (hR : spL p (v.take j) = R) (h : cutL p (sumT (v.take j)) x.t x = done ++ cutL p A left x) (hl : 1 ≤ left) (hp : 1 ≤ p) :
    R ++ done ++ [pcX p A left x] <+: spL p v := by
  have h1 := sp_up (bar := p) hx
  rw [hR, h, cutL_step hp hl] at h1
  have h2 : spL p v = spL p (v.take (j + 1)) ++ spF p (0 + sumT (v.take (j + 1))) (v.drop (j + 1)) := by
    have h3 := sp_append (bar := p) (v.take (j + 1)) (v.drop (j + 1)) 0
    rwa [List.take_append_drop] at h3
  rw [h2, h1]
  refine ⟨cutL p (A + pcN p A left) (left - pcN p A left) x ++ spF p (0 + sumT (v.take (j + 1))) (v.drop (j + 1)), ?_⟩
  simp only [List.append_assoc, List.cons_append, List.nil_append]
theorem cut_start (p S : Int) (x : Nt) : Hid (cutL p S x.t x = [] ++ cutL p (S + (x.t - x.t)) x.t x) := by
  rw [Int.sub_self, Int.add_zero]
  exact rfl

set_option maxRecDepth 20000 in
set_option maxHeartbeats 16000000 in
/-- the iterator hands over the pieces, one behind the other. -/
theorem piI_seq (va : Value) (v : List Nt) (p : Int) (k n d q1 q2 : Nat) (hd : 1 ≤ d) (hk : v.length = k) (hk60 : k ≤ 60) (hv : voB v = true) (hp : 1 ≤ p) (hp2 : p ≤ 1152) :
    SeqO Fence.wide d Tryd.prog 70 #[.pointer (some ⟨q1, 0, none⟩), .pointer (some ⟨q2, 0, none⟩)] (fun x : Nt => #[ntV x]) n [.blk q1 [.int .i64 p], .blk q2 [va]] (fun w => SlAt w va k 6 (vcC v))
      (fun xs => xs = spL p v) (fun pre => pre <+: spL p v) (spL p v).length := by
  intro l B T Jx W T0 hPre hT0 hO hY
  have HP := hid hPre
  have HY := hid hY
  have HN := hid hk
  have HVO := hid hv
  have hU := True.intro
  have hF := True.intro
  obtain ⟨A, c, rfl, nb, hA⟩ := (hPre W hO.base).open
  have hA2 : ∀ w, B w → 0 < k → ∃ b off, A = some ⟨b, off, none⟩ ∧ k ≤ c ∧ c ≤ 9223372036854775807 ∧ b < w.heap.size := fun w hB h0 => by
    obtain ⟨A', c', e, _, h⟩ := (hPre w hB).open
    cases e
    exact h h0
  have HA := hid hA2
  simp only [List.cons_append, List.nil_append] at hO
  have hF := hO; (try simp only [Own, Item.Holds, apart_bb, apart_br, apart_rb, CellsAt, Nat.reduceAdd, Nat.zero_add, List.mem_cons, List.not_mem_nil, or_false, forall_eq_or_imp, forall_eq, ne_eq, false_imp_iff, implies_true, and_true] at hF)
  clear hPre hY hk hv hA hA2
  refine callsIn_of_wp Tryd.func70 rfl trivial ?_ rfl
  simp only [Tryd.ntmps70, List.size_toArray, List.length_cons, List.length_nil, Nat.reduceAdd, Nat.reduceSub, Array.replicate_succ, Array.replicate_zero, List.push_toArray, List.append_toArray, List.nil_append, List.cons_append]
  gi_wp2
  gi_loopw [4, 11] (fun r i wr => ∃ (j : Nat) (T1 : List Item), j ≤ k ∧ i = .int .i64 j ∧ r = .int .i64 (p - sumT (v.take j) % p) ∧ T (spL p (v.take j)) T1 ∧ Own n B wr (.blk q1 [.int .i64 p] :: .blk q2 [.slice A k c] :: T1)) (fun _ i _ => k - (intOf i).toNat)
  case atStart => exact ⟨0, T0, by omega, rfl, by simp [sumT], hT0, hO⟩
  case round =>
    clear hO hF hT0 T0
    obtain ⟨j, T1, hj, rfl, rfl, hT1, hO⟩ := hrel
    have hF := hO; (try simp only [Own, Item.Holds, apart_bb, apart_br, apart_rb, CellsAt, Nat.reduceAdd, Nat.zero_add, List.mem_cons, List.not_mem_nil, or_false, forall_eq_or_imp, forall_eq, ne_eq, false_imp_iff, implies_true, and_true] at hF)
    by_cases he : j = k
    · subst he
      have HE := hid (show v.take j = v by rw [← HN.out, List.take_length])
      rw [HE.out] at hT1
      gi_wp2
      go_end0
      exact ⟨⟨_, rfl⟩, .inl ⟨_, T1, rfl, hT1, hO.2.2⟩⟩
    · have hlt : j < k := by omega
      have hlt2 : (j : Int) < k := by omega
      obtain ⟨b, off, rfl, hc1, hc2, hbk⟩ := HA.out wr hO.base (by omega)
      obtain ⟨x, hx⟩ : ∃ x, v[j]? = some x := ⟨_, List.getElem?_eq_getElem (by have := HN.out; omega)⟩
      obtain ⟨d0, d1, d2, d3, d4, d5⟩ := noteAt (HP.out wr hO.base) hx
      have HX := hid hx
      have xb := vo_at HVO.out hx
      have HU := hid (And.intro (sumT_up hx) (sp_up (bar := p) hx))
      have HJ := hid (And.intro hj hlt)
      have hsb := sumT_bd HVO.out j
      obtain ⟨S, hS⟩ : ∃ S, sumT (v.take j) = S := ⟨_, rfl⟩
      obtain ⟨R, hR⟩ : ∃ R, spL p (v.take j) = R := ⟨_, rfl⟩
      have HR := hid (And.intro hS hR)
      rw [hS, hR] at HU
      rw [hS] at hsb
      rw [hR] at hT1
      rw [hS]
      obtain ⟨m, hm⟩ : ∃ m, p - S % p = m := ⟨_, rfl⟩
      have HM := hid hm
      rw [hm]
      have HF := hid (hO.fresh)
      clear he hx hj hlt hS hR hm
      have xa := cut_start p S x
      gi_wp2
      (apply own_codeI hO; (repeat (first | (with_reducible exact hO) | (with_reducible apply Own.alloc) | (with_reducible apply Own.drew) | ((with_reducible apply Own.set_at); (focus (show _ ≤ _; omega))))); have hG := hF; clear hF; clear hO; intro hO; (try simp only [World.size_alloc1, World.size_drew, Nat.reduceAdd] at hO); (try simp only [upd, updI, List.map_cons, List.map_nil, eq_self, if_true, if_false, reduceIte, Nat.add_eq_left, Nat.left_eq_add, Nat.reduceEqDiff, List.set_cons_zero, List.set_cons_succ, hU, hG] at hO); clear hG; have hF := hO; (try simp only [Own, Item.Holds, apart_bb, apart_br, apart_rb, CellsAt, Nat.reduceAdd, Nat.zero_add, List.mem_cons, List.not_mem_nil, or_false, forall_eq_or_imp, forall_eq, ne_eq, false_imp_iff, implies_true, and_true] at hF))
      obtain ⟨q, hq⟩ : ∃ q, wr.heap.size = q := ⟨_, rfl⟩
      rw [hq] at hO ⊢
      clear hF HF d0 d1 d2 d3 d4 d5 hbk
      gi_loopw [4] (fun r wi => ∃ (done : List Nt) (left : Int) (T2 : List Item), (0 ≤ left ∧ left ≤ x.t) ∧ r = .int .i64 (p - (S + (x.t - left)) % p) ∧ Hid (cutL p S x.t x = done ++ cutL p (S + (x.t - left)) left x) ∧ T (R ++ done) T2 ∧
        Own n B wi (.blk q [.bool x.r, .int .i64 x.s, .int .i64 x.a, .int .i64 x.o, .int .i64 left, .bool x.y] :: .blk q1 [.int .i64 p] :: .blk q2 [.slice (some ⟨b, off, none⟩) k c] :: T2)) (fun _ wi => cellI wi q 4)
      case atStart => exact ⟨[], x.t, T1, by omega, by rw [Int.sub_self, Int.add_zero, HM.out], xa, by rw [List.append_nil]; exact hT1, hO⟩
      case round =>
        clear hO hT1 T1 xa
        obtain ⟨done, left, T2, hl, rfl, HC, hT2, hO⟩ := hrel
        have hF := hO; (try simp only [Own, Item.Holds, apart_bb, apart_br, apart_rb, CellsAt, Nat.reduceAdd, Nat.zero_add, List.mem_cons, List.not_mem_nil, or_false, forall_eq_or_imp, forall_eq, ne_eq, false_imp_iff, implies_true, and_true] at hF)
        have hq4 := (hO.cells (b := q) List.mem_cons_self).get (j := 4) (v := .int .i64 left) rfl
        simp only [Nat.zero_add] at hq4
        have HQ := hid (cellI_of hq4)
        clear hq4
        by_cases hl0 : left = 0
        · subst hl0
          have HE3 := hid (show spL p (v.take (j + 1)) = R ++ done by rw [HU.out.2, HC.out, cutL_end (Int.le_refl _), List.append_nil])
          gi_wp2
          go_roundw
          case rel => exact ⟨j + 1, T2, by have := HJ.out; omega, by go_num, by rw [HU.out.1, Int.sub_zero], by rw [HE3.out]; exact hT2, hO.2⟩
          case measure => have := HJ.out; simp [intOf]; omega
        · have hl1 : 1 ≤ left := by omega
          have hl2 : (0 : Int) < left := by omega
          have HCG := hid (cut_go hp hl1 HC.out)
          have hpb := pc_bd (at' := S + (x.t - left)) hp hl1
          have hpp := pc_parts (A := S + (x.t - left)) (x := x) hp hl1
          have HPX := hid (show pcX p (S + (x.t - left)) left x = ⟨x.r, x.s, x.a, x.o, pcN p (S + (x.t - left)) left, (pcX p (S + (x.t - left)) left x).y⟩ from rfl)
          have HPF := hid (show R ++ done ++ [pcX p (S + (x.t - left)) left x] <+: spL p v from by
            have h1 := HC.out
            exact sp_pre (A := S + (x.t - left)) (left := left) (done := done) HX.out HR.out.2 (by rw [HR.out.1]; exact h1) hl1 hp)
          have m0 := Int.emod_nonneg (S + (x.t - left)) (show p ≠ 0 by omega)
          have m1 := Int.emod_lt_of_pos (S + (x.t - left)) (show 0 < p by omega)
          have hpm : pcN p (S + (x.t - left)) left ≤ p - (S + (x.t - left)) % p := by unfold pcN; omega
          have hrg := room_go (A := S + (x.t - left)) (P := pcN p (S + (x.t - left)) left) hp hpb.1 hpm
          obtain ⟨P, hP⟩ : ∃ P, pcN p (S + (x.t - left)) left = P := ⟨_, rfl⟩
          obtain ⟨Y, hY⟩ : ∃ Y, (pcX p (S + (x.t - left)) left x).y = Y := ⟨_, rfl⟩
          obtain ⟨A', hA'⟩ : ∃ A', S + (x.t - left) = A' := ⟨_, rfl⟩
          rw [hP, hY] at HPX
          rw [HPX.out] at HCG HPF
          rw [hP] at hpb hpm hrg HCG
          rw [hP, hY] at hpp
          rw [hA'] at hpp hpm hrg m0 m1
          rw [hA']
          obtain ⟨m', hm'⟩ : ∃ m', p - A' % p = m' := ⟨_, rfl⟩
          rw [hm'] at hpp hpm hrg
          rw [hm']
          have HFP := hid (fpI_any x.r x.s x.a x.o left m' x.y P Y hpp)
          have HRG := hid hrg
          have hlen : (R ++ done).length < (spL p v).length := by have := HPF.out.length_le; simp at this ⊢; omega
          have HAA := hid hA'
          have hmb : m' ≤ 1152 := by omega
          have g3 : IntKind.i64.wrap (left - P) = left - P := IntWalk.i64_in _ (by omega)
          have g5 : IntKind.i64.wrap (m' - P) = m' - P := IntWalk.i64_in _ (by omega)
          clear hpp hrg hP hY hA' hm' HPX HC hl0 m0 m1
          gi_wp2_with (first | (refine ⟨trivial, ?_⟩; gi_at_call 71; apply own_atI hO; (repeat (first | (with_reducible exact hO) | (with_reducible apply Own.alloc) | (with_reducible apply Own.drew) | ((with_reducible apply Own.set_at); (focus (show _ ≤ _; omega))))); have hG := hF; clear hF; clear hO; intro hO; refine own_callI hO (fun hB => HFP.out _) ?_; clear hO; intro w1 hO; (try simp only [World.size_alloc1, World.size_drew, Nat.reduceAdd] at hO); (try simp only [upd, updI, List.map_cons, List.map_nil, eq_self, if_true, if_false, reduceIte, Nat.add_eq_left, Nat.left_eq_add, Nat.reduceEqDiff, List.set_cons_zero, List.set_cons_succ, hU, hG] at hO); clear hG; have hF := hO; (try simp only [Own, Item.Holds, apart_bb, apart_br, apart_rb, CellsAt, Nat.reduceAdd, Nat.zero_add, List.mem_cons, List.not_mem_nil, or_false, forall_eq_or_imp, forall_eq, ne_eq, false_imp_iff, implies_true, and_true] at hF)) | ((show wpListIn _ _ _ _ _ (⟨some 23, _, _, _, _, _⟩ :: _) _ _); apply own_listI hO; (repeat (first | (with_reducible exact hO) | (with_reducible apply Own.alloc) | (with_reducible apply Own.drew) | ((with_reducible apply Own.set_at); (focus (show _ ≤ _; omega))))); have hG := hF; clear hF; clear hO; intro hO; (try simp only [World.size_alloc1, World.size_drew, Nat.reduceAdd] at hO); (try simp only [upd, updI, List.map_cons, List.map_nil, eq_self, if_true, if_false, reduceIte, Nat.add_eq_left, Nat.left_eq_add, Nat.reduceEqDiff, List.set_cons_zero, List.set_cons_succ, hU, hG] at hO); clear hG; have hF := hO; (try simp only [Own, Item.Holds, apart_bb, apart_br, apart_rb, CellsAt, Nat.reduceAdd, Nat.zero_add, List.mem_cons, List.not_mem_nil, or_false, forall_eq_or_imp, forall_eq, ne_eq, false_imp_iff, implies_true, and_true] at hF); refine wpListIn_yield rfl _ _ 46 rfl rfl _ rfl (fun _ => trivial) hd (HY.out [_, _, _, _] _ ⟨x.r, x.s, x.a, x.o, P, Y⟩ T2 _ hT2 hO hlen) ?_))
          clear hO hF hT2 T2 hU HFP
          intro e w2 hres
          have hU := True.intro
          rcases hres with ⟨rfl, T3, hT3, hO⟩ | ⟨rfl, hx⟩
          · refine ⟨_, rfl, ?_⟩
            have hF := hO; (try simp only [Own, Item.Holds, apart_bb, apart_br, apart_rb, CellsAt, Nat.reduceAdd, Nat.zero_add, List.mem_cons, List.not_mem_nil, or_false, forall_eq_or_imp, forall_eq, ne_eq, false_imp_iff, implies_true, and_true] at hF)
            have HS := hid ((hO.drop).set_head (i := 4) (u := .int .i64 (left - P)))
            have HA3 := hid (show S + (x.t - (left - P)) = A' + P by rw [← HAA.out]; omega)
            by_cases hc : P = m'
            · have q1 : m' - P = 0 := by omega
              have HR3 := hid (HRG.out.1 hc)
              subst hc
              gi_wp2
              go_roundw
              case rel => exact ⟨done ++ [⟨x.r, x.s, x.a, x.o, P, Y⟩], left - P, T3, by omega, by rw [HA3.out, HR3.out], HCG, by rw [← List.append_assoc] at hT3 ⊢; exact hT3, HS.out⟩
              case measure =>
                have h4 := (HS.out.cells (b := q) List.mem_cons_self).get (j := 4) (v := .int .i64 (left - P)) rfl
                simp only [Nat.zero_add] at h4
                rw [cellI_of h4, HQ.out]
                omega
            · have q1 : ¬ m' - P = 0 := by omega
              have HR3 := hid (HRG.out.2 (by omega))
              gi_wp2
              go_roundw
              case rel => exact ⟨done ++ [⟨x.r, x.s, x.a, x.o, P, Y⟩], left - P, T3, by omega, by rw [HA3.out, HR3.out], HCG, by rw [← List.append_assoc] at hT3 ⊢; exact hT3, HS.out⟩
              case measure =>
                have h4 := (HS.out.cells (b := q) List.mem_cons_self).get (j := 4) (v := .int .i64 (left - P)) rfl
                simp only [Nat.zero_add] at h4
                rw [cellI_of h4, HQ.out]
                omega
          · refine ⟨_, rfl, ?_⟩
            have hF := True.intro
            gi_wp2
            refine bodyPost_ret (results_none rfl _ _ _) rfl ?_
            exact ⟨⟨_, rfl⟩, .inr ⟨_, HPF.out, by rw [← List.append_assoc] at hx; exact hx⟩⟩

set_option maxRecDepth 20000 in
set_option maxHeartbeats 16000000 in
theorem spI_in (va : Value) (v : List Nt) (b u : Int) (n : Nat) (w : World) (hTB : TabB w) (hnl : v.length = n) (hs : SlAt w va n 6 (vcC v)) (hv : voB v = true) (hm : meB b u = true) :
    Calls Tryd.prog 27 #[va, .agg #[.int .i64 b, .int .i64 u]] w (RowOutB 46 6 (ssL v b u).length (vcC (ssL v b u)) (spB v b u) w) := by
  have hO := Own.start w
  have hF := True.intro
  have hU := True.intro
  obtain ⟨i0, hi0, hz0, hz1, hz2⟩ := info_parts infoN
  obtain ⟨A, c, rfl, nb, hA⟩ := hs.open
  have HA := hid hs
  have HN := hid hnl
  have hn60 : n ≤ 60 := by have := (voB_iff.1 hv).2; omega
  have HV := hid (voI_is hnl hs (by omega) hv)
  have HVO := hid hv
  have HM := hid (meI_is hTB hm)
  have HB := hid (btI_is hTB (show btZ b u = baZ b u by unfold btZ; rw [hm]; rfl))
  have hb := ba_bd hm
  have HE := hid (show spB v b u = decide ((spL (baZ b u) v).length ≤ 60) ∧ ssL v b u = if (spL (baZ b u) v).length ≤ 60 then spL (baZ b u) v else [] by
    have e : spB v b u = decide ((spL (baZ b u) v).length ≤ 60) := by simp [spB, hv, hm]
    refine ⟨e, ?_⟩
    unfold ssL
    rw [e]
    simp)
  obtain ⟨p, hp⟩ : ∃ p, baZ b u = p := ⟨_, rfl⟩
  rw [hp] at HB HE hb
  clear hs hnl hv hm hp hA hTB
  refine (callsIn_wide (n := 3)).1 ?_
  refine callsIn_of_wp_marks Tryd.func27 rfl trivial ?_ rfl
  simp only [Tryd.ntmps27, List.size_toArray, List.length_cons, List.length_nil, Nat.reduceAdd, Nat.reduceSub, Array.replicate_succ, Array.replicate_zero, List.push_toArray, List.append_toArray, List.nil_append, List.cons_append]
  gi_wp2_with (first | (refine ⟨trivial, ?_⟩; gi_at_call 31; apply own_atI hO; (repeat (first | (with_reducible exact hO) | (with_reducible apply Own.alloc) | (with_reducible apply Own.drew) | ((with_reducible apply Own.set_at); (focus (show _ ≤ _; omega))))); have hG := hF; clear hF; clear hO; intro hO; refine own_callI hO (fun hB => HV.out _ hB) ?_; clear hO; intro w1 hO; (try simp only [World.size_alloc1, World.size_drew, Nat.reduceAdd] at hO); (try simp only [upd, updI, List.map_cons, List.map_nil, eq_self, if_true, if_false, reduceIte, Nat.add_eq_left, Nat.left_eq_add, Nat.reduceEqDiff, List.set_cons_zero, List.set_cons_succ, hU, hG] at hO); clear hG; have hF := hO; (try simp only [Own, Item.Holds, apart_bb, apart_br, apart_rb, CellsAt, Nat.reduceAdd, Nat.zero_add, List.mem_cons, List.not_mem_nil, or_false, forall_eq_or_imp, forall_eq, ne_eq, false_imp_iff, implies_true, and_true] at hF)) | (refine ⟨trivial, ?_⟩; gi_at_call 16; apply own_atI hO; (repeat (first | (with_reducible exact hO) | (with_reducible apply Own.alloc) | (with_reducible apply Own.drew) | ((with_reducible apply Own.set_at); (focus (show _ ≤ _; omega))))); have hG := hF; clear hF; clear hO; intro hO; refine own_callI hO (fun hB => HM.out _ hB) ?_; clear hO; intro w1 hO; (try simp only [World.size_alloc1, World.size_drew, Nat.reduceAdd] at hO); (try simp only [upd, updI, List.map_cons, List.map_nil, eq_self, if_true, if_false, reduceIte, Nat.add_eq_left, Nat.left_eq_add, Nat.reduceEqDiff, List.set_cons_zero, List.set_cons_succ, hU, hG] at hO); clear hG; have hF := hO; (try simp only [Own, Item.Holds, apart_bb, apart_br, apart_rb, CellsAt, Nat.reduceAdd, Nat.zero_add, List.mem_cons, List.not_mem_nil, or_false, forall_eq_or_imp, forall_eq, ne_eq, false_imp_iff, implies_true, and_true] at hF)) | (refine ⟨trivial, ?_⟩; gi_at_call 20; apply own_atI hO; (repeat (first | (with_reducible exact hO) | (with_reducible apply Own.alloc) | (with_reducible apply Own.drew) | ((with_reducible apply Own.set_at); (focus (show _ ≤ _; omega))))); have hG := hF; clear hF; clear hO; intro hO; refine own_callI hO (fun hB => HB.out _ hB) ?_; clear hO; intro w1 hO; (try simp only [World.size_alloc1, World.size_drew, Nat.reduceAdd] at hO); (try simp only [upd, updI, List.map_cons, List.map_nil, eq_self, if_true, if_false, reduceIte, Nat.add_eq_left, Nat.left_eq_add, Nat.reduceEqDiff, List.set_cons_zero, List.set_cons_succ, hU, hG] at hO); clear hG; have hF := hO; (try simp only [Own, Item.Holds, apart_bb, apart_br, apart_rb, CellsAt, Nat.reduceAdd, Nat.zero_add, List.mem_cons, List.not_mem_nil, or_false, forall_eq_or_imp, forall_eq, ne_eq, false_imp_iff, implies_true, and_true] at hF)) | (gi_at_make; apply own_listI hO; (repeat (first | (with_reducible exact hO) | (with_reducible apply Own.alloc) | (with_reducible apply Own.drew) | ((with_reducible apply Own.set_at); (focus (show _ ≤ _; omega))))); have hG := hF; clear hF; clear hO; intro hO; refine wpListIn_make_cap rfl _ _ 37 rfl 46 i0 (.agg #[.bool false, .int .i64 0, .int .i64 0, .int .i64 0, .int .i64 0, .bool false]) 6 48 Tryd.underlying37 hi0 hz0 hz1 hz2 .i64 .i64 _ n rfl rfl rfl (by omega) (by unfold maxLen; omega) hO ?_; clear hO; intro q3 w3 hO; have hF := hO; (try simp only [Own, Item.Holds, apart_bb, apart_br, apart_rb, CellsAt, Nat.reduceAdd, Nat.zero_add, List.mem_cons, List.not_mem_nil, or_false, forall_eq_or_imp, forall_eq, ne_eq, false_imp_iff, implies_true, and_true] at hF)) | (refine ⟨trivial, ?_⟩; gi_at_call 54; apply own_atI hO; (repeat (first | (with_reducible exact hO) | (with_reducible apply Own.alloc) | (with_reducible apply Own.drew) | ((with_reducible apply Own.set_at); (focus (show _ ≤ _; omega))))); have hG := hF; clear hF; clear hO; intro hO; refine callsIn_wide.2 (bpI_any A n c p hO ?_); clear hO; intro q1 q2 w4 hO; (try simp only [World.size_alloc1, World.size_drew, Nat.reduceAdd] at hO); (try simp only [upd, updI, List.map_cons, List.map_nil, eq_self, if_true, if_false, reduceIte, Nat.add_eq_left, Nat.left_eq_add, Nat.reduceEqDiff, List.set_cons_zero, List.set_cons_succ, hG] at hO); clear hG; have hF := hO; (try simp only [Own, Item.Holds, apart_bb, apart_br, apart_rb, CellsAt, Nat.reduceAdd, Nat.zero_add, List.mem_cons, List.not_mem_nil, or_false, forall_eq_or_imp, forall_eq, ne_eq, false_imp_iff, implies_true, and_true] at hF)))
  clear hF
  refine own_rangeFunc (n := w.heap.size) rfl (by omega) (gf := 70) (lb := #[.pointer (some ⟨q1, 0, none⟩), .pointer (some ⟨q2, 0, none⟩)]) rfl trivial (enters_of Tryd.func70 (by kernel_rfl) rfl)
    (piI_seq (.slice A n c) v p n w.heap.size (3 - 1) q1 q2 (by omega) HN.out hn60 HVO.out (by omega) (by omega)) (fun _ => rfl) (Firm.plain w) (fun W hW => HA.out.below hW)
    (fun pre U => ∃ v1, U = [.blk w3.heap.size [v1], .row 46 6 v1 pre.length (vcC pre), .blk (w.heap.size + 1 + 1) [.bool false], .blk (w.heap.size + 1) [.slice none 0 0], .blk w.heap.size [.int .i64 b, .int .i64 u]] ∧ pre.length ≤ 60)
    (fun cd pre U => cd = .ret ∧ 60 < pre.length ∧ ∃ v1 : Value, ∃ k xs, U = [.blk w3.heap.size [v1], .row 46 6 v1 k xs, .blk (w.heap.size + 1 + 1) [.bool false], .blk (w.heap.size + 1) [.slice none 0 0], .blk w.heap.size [.int .i64 b, .int .i64 u]])
    (T0 := [.blk w3.heap.size [.slice (some ⟨q3, 0, none⟩) 0 n], .row 46 6 (.slice (some ⟨q3, 0, none⟩) 0 n) 0 [], .blk (w.heap.size + 1 + 1) [.bool false], .blk (w.heap.size + 1) [.slice none 0 0], .blk w.heap.size [.int .i64 b, .int .i64 u]])
    ⟨_, rfl, by simp⟩ hO
    (fun pre x a' U => ∃ q v1, U = [.blk q [.bool x.r, .int .i64 x.s, .int .i64 x.a, .int .i64 x.o, .int .i64 x.t, .bool x.y], .blk w3.heap.size [v1], .row 46 6 v1 pre.length (vcC pre), .blk (w.heap.size + 1 + 1) [.bool false], .blk (w.heap.size + 1) [.slice none 0 0], .blk w.heap.size [.int .i64 b, .int .i64 u]] ∧ pre.length ≤ 60 ∧ a' = { tmps := #[.slice A n c, .agg #[.int .i64 b, .int .i64 u], undef, .pointer (some ⟨w.heap.size, 0, none⟩), .pointer (some ⟨w.heap.size + 1, 0, none⟩), .pointer (some ⟨w.heap.size + 1 + 1, 0, none⟩), .pointer (some ⟨w3.heap.size, 0, none⟩), .pointer (some ⟨q, 0, none⟩), .slice A n c, .bool true, .bool false, .bool false, .agg #[.int .i64 b, .int .i64 u], .bool true, .bool false, .bool false, .slice A n c, .int .i64 n, .slice (some ⟨q3, 0, none⟩) 0 n, .slice A n c, .agg #[.int .i64 b, .int .i64 u], .int .i64 p, .func (.func 70) #[] #[.pointer (some ⟨q1, 0, none⟩), .pointer (some ⟨q2, 0, none⟩)], ntV x, undef, undef, undef, undef, undef, undef, undef, undef], defers := [] }) ?assign ?body ?done ?stop
  case assign =>
    rintro l M pre x _ B1 W hB1 ⟨v1, rfl, hlen⟩ hO1 _
    have h9 := hO1.alloc (t := 46) (vs := [.bool x.r, .int .i64 x.s, .int .i64 x.a, .int .i64 x.o, .int .i64 x.t, .bool x.y])
    clear hO hO1
    gi_wp2
    exact ⟨_, ⟨_, v1, rfl, hlen, rfl⟩, h9⟩
  case body =>
    rintro l M pre x _ _ B1 W hB1 ⟨q, v1, rfl, hlen, rfl⟩ hO1 _
    clear hO
    have hO := hO1
    clear hO1
    simp only [List.cons_append, List.nil_append] at hO
    obtain ⟨A2, cap2, rfl⟩ := hO.2.2.row_form
    have hF := hO; (try simp only [Own, Item.Holds, apart_bb, apart_br, apart_rb, CellsAt, Nat.reduceAdd, Nat.zero_add, List.mem_cons, List.not_mem_nil, or_false, forall_eq_or_imp, forall_eq, ne_eq, false_imp_iff, implies_true, and_true] at hF)
    by_cases h60 : pre.length = 60
    · have n6 : (pre.length : Int) = 60 := by omega
      have h9 := Own.set_mem (i := 0) (u := .bool false) [_, _] (Own.set_mem (i := 0) (u := .slice none 0 0) [_, _, _] hO.2)
      clear hO
      gi_wp2
      exact ⟨_, ⟨rfl, by simp; omega, _, _, _, rfl⟩, h9⟩
    · have n6 : ¬ (pre.length : Int) = 60 := by omega
      gi_wp2_with (gi_at_builtin; apply own_listI hO; (repeat (first | (with_reducible exact hO) | (with_reducible apply Own.alloc) | (with_reducible apply Own.drew) | ((with_reducible apply Own.set_at); (focus (show _ ≤ _; omega))))); have hG := hF; clear hF; clear hO; intro hO; (try simp only [World.size_alloc1, World.size_drew, Nat.reduceAdd] at hO); (try simp only [upd, updI, List.map_cons, List.map_nil, eq_self, if_true, if_false, reduceIte, Nat.add_eq_left, Nat.left_eq_add, Nat.reduceEqDiff, List.set_cons_zero, List.set_cons_succ, hU, hG] at hO); clear hG; (try simp only [World.size_setCell] at hO); have hF := hO; (try simp only [Own, Item.Holds, apart_bb, apart_br, apart_rb, CellsAt, Nat.reduceAdd, Nat.zero_add, List.mem_cons, List.not_mem_nil, or_false, forall_eq_or_imp, forall_eq, ne_eq, false_imp_iff, implies_true, and_true] at hF); replace hO := (Own.sub (.cons_cons _ (.cons _ (.refl _))) hO).perm ((List.Perm.swap _ _ _).cons _); refine wpListIn_append_item rfl _ _ 37 rfl 46 i0 (.agg #[.bool false, .int .i64 0, .int .i64 0, .int .i64 0, .int .i64 0, .bool false]) 6 48 Tryd.underlying37 hi0 hz0 hz1 hz2 rfl (by decide) rfl rfl hO rfl one6g (by unfold maxLen; omega) (by omega) ?_; clear hO hF; intro v5 w5 hO _; obtain ⟨A5, cap5, rfl⟩ := hO.row_form; have hF := hO; (try simp only [Own, Item.Holds, apart_bb, apart_br, apart_rb, CellsAt, Nat.reduceAdd, Nat.zero_add, List.mem_cons, List.not_mem_nil, or_false, forall_eq_or_imp, forall_eq, ne_eq, false_imp_iff, implies_true, and_true] at hF))
      have h9 := (Own.set_mem (i := 0) (u := .slice A5 (pre.length + 1) cap5) [_] hO).perm (List.Perm.swap _ _ _)
      exact ⟨_, ⟨_, rfl, by simp; omega⟩, by rw [List.length_append, ← vcC_snoc]; exact h9⟩
  case done =>
    rintro D xs _ W rfl ⟨v1, rfl, hlen⟩ hO1
    have hO := hO1.perm List.perm_append_comm
    clear hO1
    simp only [List.cons_append, List.nil_append] at hO
    obtain ⟨A2, cap2, rfl⟩ := (hO.2.2).row_form
    have hF := True.intro
    have hF := hO; (try simp only [Own, Item.Holds, apart_bb, apart_br, apart_rb, CellsAt, Nat.reduceAdd, Nat.zero_add, List.mem_cons, List.not_mem_nil, or_false, forall_eq_or_imp, forall_eq, ne_eq, false_imp_iff, implies_true, and_true] at hF)
    have h9 : Own w.heap.size (Keep (Below w.heap.size w) D (.deferred (some []))) ((W.setCell ⟨w.heap.size + 1, 0, none⟩ (.slice A2 (spL p v).length cap2)).setCell ⟨w.heap.size + 1 + 1, 0, none⟩ (.bool true)) [.blk D [], .blk w3.heap.size [.slice A2 (spL p v).length cap2], .row 46 6 (.slice A2 (spL p v).length cap2) (spL p v).length (vcC (spL p v)), .blk (w.heap.size + 1 + 1) [.bool true], .blk (w.heap.size + 1) [.slice A2 (spL p v).length cap2], .blk w.heap.size [.int .i64 b, .int .i64 u]] :=
      Own.set_mem (i := 0) (u := .bool true) [_, _, _] (Own.set_mem (i := 0) (u := .slice A2 (spL p v).length cap2) [_, _, _, _] hO)
    rw [if_pos hlen] at HE
    have HK := hid (show decide ((spL p v).length ≤ 60) = true by simpa using hlen)
    clear hO
    gi_wp2
    refine own_leaveM (v := .tuple #[.slice A2 (spL p v).length cap2, .bool true]) (Firm.plain w) rfl h9 (fun w' h => ?_) (fun w' h => ?_)
    · have hO := h
      have hF := True.intro
      clear h h9
      have hF := hO; (try simp only [Own, Item.Holds, apart_bb, apart_br, apart_rb, CellsAt, Nat.reduceAdd, Nat.zero_add, List.mem_cons, List.not_mem_nil, or_false, forall_eq_or_imp, forall_eq, ne_eq, false_imp_iff, implies_true, and_true] at hF)
      simp [results, Tryd.results27, go_sem, hF]
    · rw [HE.out.1, HE.out.2, HK.out]
      exact ⟨_, rfl, h.2.2.1.1, h.base⟩
  case stop =>
    rintro D cd pre _ W hpre ⟨rfl, h60, v1, k, xs, rfl⟩ hO1
    have hO := hO1.perm List.perm_append_comm
    clear hO1
    simp only [List.cons_append, List.nil_append] at hO
    have hlen : ¬ (spL p v).length ≤ 60 := by have := hpre.length_le; omega
    rw [if_neg hlen] at HE
    have HK := hid (show decide ((spL p v).length ≤ 60) = false by simpa using hlen)
    have h9 := hO
    clear hO
    gi_wp2
    refine own_leaveM (v := .tuple #[.slice none 0 0, .bool false]) (Firm.plain w) rfl h9 (fun w' h => ?_) (fun w' h => ?_)
    · have hO := h
      have hF := True.intro
      clear h h9
      have hF := hO; (try simp only [Own, Item.Holds, apart_bb, apart_br, apart_rb, CellsAt, Nat.reduceAdd, Nat.zero_add, List.mem_cons, List.not_mem_nil, or_false, forall_eq_or_imp, forall_eq, ne_eq, false_imp_iff, implies_true, and_true] at hF)
      simp [results, Tryd.results27, go_sem, hF]
    · rw [HE.out.1, HE.out.2, HK.out]
      exact ⟨_, rfl, ⟨by simp [vcC], .inl ⟨rfl, rfl⟩⟩, h.base⟩

set_option maxHeartbeats 4000000 in
theorem spI_out (va : Value) (v : List Nt) (b u : Int) (n : Nat) (w : World) (hTB : TabB w) (hnl : v.length = n) (hn : n ≤ 1048576) (hs : SlAt w va n 6 (vcC v)) (hv : (voB v && meB b u) = false) :
    Calls Tryd.prog 27 #[va, .agg #[.int .i64 b, .int .i64 u]] w (RowOutB 46 6 0 [] false w) := by
  have hO := Own.start w
  have hF := True.intro
  cases hvo : voB v
  · have HV := hid (voI_is hnl hs hn hvo)
    clear hs hnl hv hvo hTB
    go_enter Tryd.func27, Tryd.ntmps27
    go_wp2_with (go_at_call 31; apply own_at hO; (repeat (first | (with_reducible exact hO) | (with_reducible apply Own.alloc) | (with_reducible apply Own.drew) | ((with_reducible apply Own.set_at); (focus (show _ ≤ _; omega))))); have hG := hF; clear hF; clear hO; intro hO; refine own_call hO (fun hB => HV.out _ hB) ?_; clear hO; intro w1 hO; (try simp only [World.size_alloc1, World.size_drew, Nat.reduceAdd] at hO); (try simp only [upd, updI, List.map_cons, List.map_nil, eq_self, if_true, if_false, reduceIte, Nat.add_eq_left, Nat.left_eq_add, Nat.reduceEqDiff, List.set_cons_zero, List.set_cons_succ, hG] at hO); clear hG; have hF := hO; (try simp only [Own, Item.Holds, apartI, CellsAt, Nat.reduceAdd, Nat.zero_add, List.mem_cons, List.not_mem_nil, or_false, forall_eq_or_imp, forall_eq, ne_eq, false_imp_iff, implies_true, and_true] at hF))
    apply own_end hO
    (repeat (first | (with_reducible exact hO) | (with_reducible apply Own.alloc) | (with_reducible apply Own.drew) | ((with_reducible apply Own.set_at); (focus (show _ ≤ _; omega)))))
    have hG := hF; clear hF; clear hO; intro hO
    refine own_ret (v := .tuple #[.slice none 0 0, .bool false]) hO ?_ rfl (fun hO => ⟨_, rfl, ⟨by simp, .inl ⟨rfl, rfl⟩⟩, hO.base⟩)
    clear hO; intro w1 hO
    (try simp only [World.size_alloc1, World.size_drew, Nat.reduceAdd] at hO); (try simp only [upd, updI, List.map_cons, List.map_nil, eq_self, if_true, if_false, reduceIte, Nat.add_eq_left, Nat.left_eq_add, Nat.reduceEqDiff, List.set_cons_zero, List.set_cons_succ, hG] at hO); clear hG
    have hF := hO; (try simp only [Own, Item.Holds, apartI, CellsAt, Nat.reduceAdd, Nat.zero_add, List.mem_cons, List.not_mem_nil, or_false, forall_eq_or_imp, forall_eq, ne_eq, false_imp_iff, implies_true, and_true] at hF)
    simp [results, Tryd.results27, go_sem, hF]
  · have hm : meB b u = false := by rw [hvo] at hv; simpa using hv
    have HV := hid (voI_is hnl hs hn hvo)
    have HM := hid (meI_is hTB hm)
    clear hs hnl hv hm hvo hTB
    go_enter Tryd.func27, Tryd.ntmps27
    go_wp2_with (first | (go_at_call 31; apply own_at hO; (repeat (first | (with_reducible exact hO) | (with_reducible apply Own.alloc) | (with_reducible apply Own.drew) | ((with_reducible apply Own.set_at); (focus (show _ ≤ _; omega))))); have hG := hF; clear hF; clear hO; intro hO; refine own_call hO (fun hB => HV.out _ hB) ?_; clear hO; intro w1 hO; (try simp only [World.size_alloc1, World.size_drew, Nat.reduceAdd] at hO); (try simp only [upd, updI, List.map_cons, List.map_nil, eq_self, if_true, if_false, reduceIte, Nat.add_eq_left, Nat.left_eq_add, Nat.reduceEqDiff, List.set_cons_zero, List.set_cons_succ, hG] at hO); clear hG; have hF := hO; (try simp only [Own, Item.Holds, apartI, CellsAt, Nat.reduceAdd, Nat.zero_add, List.mem_cons, List.not_mem_nil, or_false, forall_eq_or_imp, forall_eq, ne_eq, false_imp_iff, implies_true, and_true] at hF)) | (go_at_call 16; apply own_at hO; (repeat (first | (with_reducible exact hO) | (with_reducible apply Own.alloc) | (with_reducible apply Own.drew) | ((with_reducible apply Own.set_at); (focus (show _ ≤ _; omega))))); have hG := hF; clear hF; clear hO; intro hO; refine own_call hO (fun hB => HM.out _ hB) ?_; clear hO; intro w1 hO; (try simp only [World.size_alloc1, World.size_drew, Nat.reduceAdd] at hO); (try simp only [upd, updI, List.map_cons, List.map_nil, eq_self, if_true, if_false, reduceIte, Nat.add_eq_left, Nat.left_eq_add, Nat.reduceEqDiff, List.set_cons_zero, List.set_cons_succ, hG] at hO); clear hG; have hF := hO; (try simp only [Own, Item.Holds, apartI, CellsAt, Nat.reduceAdd, Nat.zero_add, List.mem_cons, List.not_mem_nil, or_false, forall_eq_or_imp, forall_eq, ne_eq, false_imp_iff, implies_true, and_true] at hF)))
    apply own_end hO
    (repeat (first | (with_reducible exact hO) | (with_reducible apply Own.alloc) | (with_reducible apply Own.drew) | ((with_reducible apply Own.set_at); (focus (show _ ≤ _; omega)))))
    have hG := hF; clear hF; clear hO; intro hO
    refine own_ret (v := .tuple #[.slice none 0 0, .bool false]) hO ?_ rfl (fun hO => ⟨_, rfl, ⟨by simp, .inl ⟨rfl, rfl⟩⟩, hO.base⟩)
    clear hO; intro w1 hO
    (try simp only [World.size_alloc1, World.size_drew, Nat.reduceAdd] at hO); (try simp only [upd, updI, List.map_cons, List.map_nil, eq_self, if_true, if_false, reduceIte, Nat.add_eq_left, Nat.left_eq_add, Nat.reduceEqDiff, List.set_cons_zero, List.set_cons_succ, hG] at hO); clear hG
    have hF := hO; (try simp only [Own, Item.Holds, apartI, CellsAt, Nat.reduceAdd, Nat.zero_add, List.mem_cons, List.not_mem_nil, or_false, forall_eq_or_imp, forall_eq, ne_eq, false_imp_iff, implies_true, and_true] at hF)
    simp [results, Tryd.results27, go_sem, hF]

theorem spI_any (va : Value) (v : List Nt) (b u : Int) (w : World) (hTB : TabB w) (hs : SlAt w va v.length 6 (vcC v)) (hn : v.length ≤ 1048576) :
    Calls Tryd.prog 27 #[va, .agg #[.int .i64 b, .int .i64 u]] w (RowOutB 46 6 (ssL v b u).length (vcC (ssL v b u)) (spB v b u) w) := by
  cases hv : voB v && meB b u
  · have hb : spB v b u = false := by unfold spB; rw [hv]; rfl
    have hl : ssL v b u = [] := by unfold ssL; rw [hb]; rfl
    rw [hb, hl]
    exact spI_out va v b u _ w hTB rfl hn hs hv
  · rw [Bool.and_eq_true] at hv
    exact spI_in va v b u _ w hTB rfl hs hv.1 hv.2
theorem spI_C {w : World} (hT : TabB w) : CVm 27 ssL spB w := fun va v b u W hW hs hn _ _ => spI_any va v b u W (hT.below hW) hs hn
end Go.Proofs.YtcifmpjefhichaaDoor
