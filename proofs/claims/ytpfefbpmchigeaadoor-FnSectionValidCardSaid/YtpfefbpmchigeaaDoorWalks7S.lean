/- Chapter 7 in the model: sections that are valid; the bars on paper. -/
import Derived.Test.YtpfefbpmchigeaaDoorWalks1
import Derived.Test.YtpfefbpmchigeaaDoorOwnMake
import Derived.Test.YtpfefbpmchigeaaDoorSecs
namespace Go.Proofs.YtpfefbpmchigeaaDoor
set_option linter.unusedSimpArgs false
set_option linter.unusedVariables false
open Go.RowKit

theorem all_up {l : List Int} {k : Nat} {x : Int} {f : Int → Bool} (hx : l[k]? = some x) : (l.drop k).all f = (f x && (l.drop (k + 1)).all f) := by
  have hk := (List.getElem?_eq_some_iff.1 hx).1
  have : l.drop k = x :: l.drop (k + 1) := by
    rw [List.drop_eq_getElem_cons hk]; congr 1
    rw [List.getElem?_eq_getElem hk] at hx; exact Option.some.inj hx
  rw [this, List.all_cons]

set_option maxHeartbeats 8000000 in
theorem seS_any (b t : Int) (ev : Value) (e : List Int) (w : World) (he : IntsAt w ev e) (hn : e.length ≤ 1048576) :
    Calls Tryd.prog 11 #[.agg #[.int .i64 b, .int .i64 t, ev]] w fun r w' => r = .returned (.bool (seB ⟨b, t, e⟩)) ∧ Below w.heap.size w w' := by
  have hO := Own.start w
  have hF := True.intro
  obtain ⟨A, c, rfl, hA⟩ := he.open hn
  obtain ⟨n, hnl⟩ : ∃ n, e.length = n := ⟨_, rfl⟩
  have HN := hid hnl
  rw [hnl] at hn hA
  have HSE := hid (show seB ⟨b, t, e⟩ = (e.all (fun x => inB x 0 12) && (inB b 0 12 && (inB t 1 4 && ((n : Int) == 0 || (n : Int) == t)))) by
    unfold seB
    simp only
    rw [hnl, Bool.and_assoc, Bool.and_assoc]
    congr 3
    cases e with
    | nil => simp at hnl; subst hnl; rfl
    | cons x r => simp at hnl; subst hnl; simp; omega)
  rw [hnl]
  clear hnl he
  go_enter Tryd.func11, Tryd.ntmps11
  go_wp2_with fail
  (apply own_code hO; (repeat (first | (with_reducible exact hO) | (with_reducible apply Own.alloc) | (with_reducible apply Own.drew) | ((with_reducible apply Own.set_at); (focus (show _ ≤ _; omega))))); have hG := hF; clear hF; clear hO; intro hO; (try simp only [World.size_alloc1, World.size_drew, Nat.reduceAdd] at hO); (try simp only [upd, updI, List.map_cons, List.map_nil, eq_self, if_true, if_false, reduceIte, Nat.add_eq_left, Nat.left_eq_add, Nat.reduceEqDiff, List.set_cons_zero, List.set_cons_succ, hG] at hO); clear hG; have hF := hO; (try simp only [Own, Item.Holds, apartI, CellsAt, Nat.reduceAdd, Nat.zero_add, List.mem_cons, List.not_mem_nil, or_false, forall_eq_or_imp, forall_eq, ne_eq, false_imp_iff, implies_true, and_true] at hF))
  go_loopw [3] (fun s wr => ∃ k : Nat, k ≤ n ∧ s = .int .i64 k ∧ Hid (e.all (fun x => inB x 0 12) = (e.drop k).all (fun x => inB x 0 12)) ∧ Own w.heap.size (Below w.heap.size w) wr [.blk w.heap.size [.int .i64 b, .int .i64 t, .slice A n c]]) (fun s _ => n - (intOf s).toNat)
  case atStart => exact ⟨0, by omega, rfl, rfl, hO⟩
  case round =>
    clear hO hF
    obtain ⟨k, hk, rfl, HT, hO⟩ := hrel
    have hF := hO; (try simp only [Own, Item.Holds, apartI, CellsAt, Nat.reduceAdd, Nat.zero_add, List.mem_cons, List.not_mem_nil, or_false, forall_eq_or_imp, forall_eq, ne_eq, false_imp_iff, implies_true, and_true] at hF)
    by_cases hend : k = n
    · subst hend
      have HE2 := hid (show seB ⟨b, t, e⟩ = (inB b 0 12 && (inB t 1 4 && ((k : Int) == 0 || (k : Int) == t))) by
        rw [HSE.out, HT.out, show e.drop k = [] by rw [List.drop_eq_nil_iff]; have := HN.out; omega]; rfl)
      have k0 : (0 : Int) ≤ (k : Int) := by omega
      go_wp2_with (go_at_call 30; refine (in_any _ _ _ _).mono ?_; rintro e w1 ⟨rfl, rfl⟩)
      all_goals go_ret
      all_goals exact ⟨ret_bool (by rw [HE2.out]; simp_all), Own.base (by (repeat (first | (with_reducible exact hO) | (with_reducible apply Own.alloc) | (with_reducible apply Own.drew) | ((with_reducible apply Own.set_at); (focus (show _ ≤ _; omega))))))⟩
    · have hlt : k < n := by omega
      have hlt2 : (k : Int) < n := by omega
      obtain ⟨b', off, rfl, hc1, hc2, hb, hcell⟩ := hA (by omega)
      obtain ⟨x, hx⟩ : ∃ x, e[k]? = some x := ⟨_, List.getElem?_eq_getElem (by have := HN.out; omega)⟩
      have hc := (bcell hO.base).1 b' (off + k) hb
      rw [hcell k x hx] at hc
      have HU := hid (all_up (f := fun x => inB x 0 12) hx)
      obtain ⟨o, ho⟩ : ∃ o, inB x 0 12 = o := ⟨_, rfl⟩
      have HIN := hid (fun W => in_any x 0 12 W)
      rw [ho] at HIN
      have HO := hid ho
      clear hend hx ho hcell
      cases o
      · have HE2 := hid (show seB ⟨b, t, e⟩ = false by rw [HSE.out, HT.out, HU.out]; simp only [HO.out, Bool.false_and])
        go_wp2_with (go_at_call 30; refine (HIN.out _).mono ?_; rintro e w1 ⟨rfl, rfl⟩)
        go_ret
        exact ⟨ret_bool HE2.out.symm, hO.base⟩
      · have HE2 := hid (show e.all (fun x => inB x 0 12) = (e.drop (k + 1)).all (fun x => inB x 0 12) by rw [HT.out, HU.out]; simp only [HO.out, Bool.true_and])
        go_wp2_with (go_at_call 30; refine (HIN.out _).mono ?_; rintro e w1 ⟨rfl, rfl⟩)
        go_roundw
        case rel => exact ⟨k + 1, by omega, by go_num, HE2.out, hO⟩
        case measure => simp [intOf]; omega

theorem seS_is {s : Sec} {ev : Value} {w : World} {o : Bool} (he : IntsAt w ev s.e) (hn : s.e.length ≤ 1048576) (h : seB s = o) (W : World) (hW : Below w.heap.size w W) :
    Calls Tryd.prog 11 #[.agg #[.int .i64 s.b, .int .i64 s.t, ev]] W fun r w' => r = .returned (.bool o) ∧ Below W.heap.size W w' := by
  subst h
  exact seS_any s.b s.t ev s.e W (he.below hW) hn
theorem sec_up {l : List Sec} {k : Nat} {s : Sec} (hs : l[k]? = some s) : (l.drop k).all seB = (seB s && (l.drop (k + 1)).all seB) := by
  have hk := (List.getElem?_eq_some_iff.1 hs).1
  have : l.drop k = s :: l.drop (k + 1) := by
    rw [List.drop_eq_getElem_cons hk]; congr 1
    rw [List.getElem?_eq_getElem hk] at hs; exact Option.some.inj hs
  rw [this, List.all_cons]

set_option maxHeartbeats 8000000 in
theorem ssS_any (va : Value) (l : List Sec) (w : World) (ha : SecsAt w va l) (hn : l.length ≤ 1048576) (hle : ∀ s ∈ l, s.e.length ≤ 1048576) :
    Calls Tryd.prog 15 #[va] w fun r w' => r = .returned (.bool (ssB l)) ∧ Below w.heap.size w w' := by
  have hO := Own.start w
  have hF := True.intro
  obtain ⟨A, c, rfl, hA⟩ := ha.open
  obtain ⟨n, hnl⟩ : ∃ n, l.length = n := ⟨_, rfl⟩
  have HN := hid hnl
  have HLE := hid hle
  rw [hnl] at hn hA
  rw [hnl]
  clear hnl ha hle
  go_enter Tryd.func15, Tryd.ntmps15
  go_wp2_with fail
  go_loopw [3] (fun t wr => ∃ k : Nat, k ≤ n ∧ t = .int .i64 k ∧ Hid (l.all seB = (l.drop k).all seB) ∧ Own w.heap.size (Below w.heap.size w) wr []) (fun t _ => n - (intOf t).toNat)
  case atStart => exact ⟨0, by omega, rfl, rfl, hO⟩
  case round =>
    clear hO hF
    obtain ⟨k, hk, rfl, HT, hO⟩ := hrel
    have hF := True.intro
    by_cases hend : k = n
    · subst hend
      have HE := hid (show ssB l = decide ((k : Int) ≤ 8) by
        unfold ssB
        rw [HT.out, show l.drop k = [] by rw [List.drop_eq_nil_iff]; have := HN.out; omega, HN.out]
        rw [List.all_nil, Bool.true_and]
        congr 1
        rw [eq_iff_iff]; omega)
      go_wp2_with fail
      go_ret
      exact ⟨ret_bool HE.out.symm, hO.base⟩
    · have hlt : k < n := by omega
      have hlt2 : (k : Int) < n := by omega
      obtain ⟨b', off, rfl, hc1, hc2, hb, hcell⟩ := hA (by omega)
      obtain ⟨s, hs⟩ : ∃ s, l[k]? = some s := ⟨_, List.getElem?_eq_getElem (by have := HN.out; omega)⟩
      obtain ⟨ev, hev, d0, d1, d2⟩ := hcell k s hs
      have g0 := (bcell hO.base).1 b' (off + k * 3) hb
      have g1 := (bcell hO.base).1 b' (off + k * 3 + 1) hb
      have g2 := (bcell hO.base).1 b' (off + k * 3 + 2) hb
      rw [d0] at g0
      rw [d1] at g1
      rw [d2] at g2
      obtain ⟨o, ho⟩ : ∃ o, seB s = o := ⟨_, rfl⟩
      have HV := hid (seS_is hev (HLE.out s (List.mem_of_getElem? hs)) ho)
      have HU := hid (sec_up hs)
      rw [ho] at HU
      clear hend hs ho hcell hev d0 d1 d2
      cases o
      · have HE := hid (show ssB l = false by unfold ssB; rw [HT.out, HU.out]; simp)
        go_wp2_with (go_at_call 11; apply own_at hO; (repeat (first | (with_reducible exact hO) | (with_reducible apply Own.alloc) | (with_reducible apply Own.drew) | ((with_reducible apply Own.set_at); (focus (show _ ≤ _; omega))))); have hG := hF; clear hF; clear hO; intro hO; refine own_call hO (fun hB => HV.out _ hB) ?_; clear hO; intro w1 hO; (try simp only [World.size_alloc1, World.size_drew, Nat.reduceAdd] at hO); (try simp only [upd, updI, List.map_cons, List.map_nil, eq_self, if_true, if_false, reduceIte, Nat.add_eq_left, Nat.left_eq_add, Nat.reduceEqDiff, List.set_cons_zero, List.set_cons_succ, hG] at hO); clear hG; have hF := hO; (try simp only [Own, Item.Holds, apartI, CellsAt, Nat.reduceAdd, Nat.zero_add, List.mem_cons, List.not_mem_nil, or_false, forall_eq_or_imp, forall_eq, ne_eq, false_imp_iff, implies_true, and_true] at hF))
        go_ret
        exact ⟨ret_bool HE.out.symm, Own.base (by (repeat (first | (with_reducible exact hO) | (with_reducible apply Own.alloc) | (with_reducible apply Own.drew) | ((with_reducible apply Own.set_at); (focus (show _ ≤ _; omega))))))⟩
      · have HE := hid (show l.all seB = (l.drop (k + 1)).all seB by rw [HT.out, HU.out, Bool.true_and])
        go_wp2_with (go_at_call 11; apply own_at hO; (repeat (first | (with_reducible exact hO) | (with_reducible apply Own.alloc) | (with_reducible apply Own.drew) | ((with_reducible apply Own.set_at); (focus (show _ ≤ _; omega))))); have hG := hF; clear hF; clear hO; intro hO; refine own_call hO (fun hB => HV.out _ hB) ?_; clear hO; intro w1 hO; (try simp only [World.size_alloc1, World.size_drew, Nat.reduceAdd] at hO); (try simp only [upd, updI, List.map_cons, List.map_nil, eq_self, if_true, if_false, reduceIte, Nat.add_eq_left, Nat.left_eq_add, Nat.reduceEqDiff, List.set_cons_zero, List.set_cons_succ, hG] at hO); clear hG; have hF := hO; (try simp only [Own, Item.Holds, apartI, CellsAt, Nat.reduceAdd, Nat.zero_add, List.mem_cons, List.not_mem_nil, or_false, forall_eq_or_imp, forall_eq, ne_eq, false_imp_iff, implies_true, and_true] at hF))
        go_roundw
        case rel => exact ⟨k + 1, by omega, by go_num, HE.out, hO⟩
        case measure => simp [intOf]; omega
theorem ssS_is {va : Value} {l : List Sec} {w : World} {o : Bool} (ha : SecsAt w va l) (hn : l.length ≤ 1048576) (hle : ∀ s ∈ l, s.e.length ≤ 1048576) (h : ssB l = o) (W : World) (hW : Below w.heap.size w W) :
    Calls Tryd.prog 15 #[va] W fun r w' => r = .returned (.bool o) ∧ Below W.heap.size W w' := by
  subst h
  exact ssS_any va l W (ha.below hW) hn hle
end Go.Proofs.YtpfefbpmchigeaaDoor
