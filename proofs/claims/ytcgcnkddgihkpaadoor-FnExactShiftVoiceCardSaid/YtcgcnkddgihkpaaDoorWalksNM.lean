/- The laws' own functions over voices: marks are laid into notes and found. -/
import Derived.Test.YtcgcnkddgihkpaaDoorWalksNS
namespace Go.Proofs.YtcgcnkddgihkpaaDoor
set_option linter.unusedSimpArgs false
set_option linter.unusedVariables false
set_option maxRecDepth 8000
open Go.RowKit

/-- A note that bears the marks from k on. -/
def nmN (k : Int) : Nt := ⟨k % 3 == 0, k + 1, k + 1 + 1, k + 1 + 1 + 1, k + 1 + 1 + 1 + 1, (k + 1 + 1 + 1 + 1 + 1) % 3 == 0⟩
/-- n notes that bear them. -/
def mkN (k0 : Int) (n : Nat) : List Nt := (List.range n).map fun (j : Nat) => nmN (k0 + 6 * (j : Int))
theorem mkN_len (k0 : Int) (n : Nat) : (mkN k0 n).length = n := by simp [mkN]
theorem mkN_at {k0 : Int} {n j : Nat} (h : j < n) : (mkN k0 n)[j]? = some (nmN (k0 + 6 * (j : Int))) := by simp [mkN, h]
theorem mkN_up (k0 : Int) (n : Nat) : mkN k0 (n + 1) = mkN k0 n ++ [nmN (k0 + 6 * (n : Int))] := by simp [mkN, List.range_succ]
/-- The first j of them bear marks. -/
def mixM (k0 : Int) (v : List Nt) (j : Nat) : List Nt := mkN k0 j ++ v.drop j
theorem mixM_put {k0 : Int} {v : List Nt} {j : Nat} (h : j < v.length) :
    ((((((vcC (mixM k0 v j)).set (j * 6) (.bool (nmN (k0 + 6 * (j : Int))).r)).set (j * 6 + 1) (.int .i64 (nmN (k0 + 6 * (j : Int))).s)).set (j * 6 + 2) (.int .i64 (nmN (k0 + 6 * (j : Int))).a)).set (j * 6 + 3) (.int .i64 (nmN (k0 + 6 * (j : Int))).o)).set (j * 6 + 4) (.int .i64 (nmN (k0 + 6 * (j : Int))).t)).set (j * 6 + 5) (.bool (nmN (k0 + 6 * (j : Int))).y) = vcC (mixM k0 v (j + 1)) := by
  unfold mixM
  rw [List.drop_eq_getElem_cons h, vcC_put (mkN_len k0 j), mkN_up, List.append_assoc]
  rfl
theorem mixM_len (k0 : Int) (v : List Nt) (j : Nat) (h : j ≤ v.length) : (mixM k0 v j).length = v.length := by simp [mixM, mkN_len]; omega
theorem mixM_full (k0 : Int) (v : List Nt) : mixM k0 v v.length = mkN k0 v.length := by simp [mixM]

/-- What laying marks into a row leaves: its cells, anew. -/
def MarkedTo (n : Nat) (e : TypeId) (size : Nat) (v : Value) (k : Nat) (r : Value) (ys : List Value) (w : World) (e' : Ending) (w' : World) : Prop :=
  e' = .returned r ∧ w.grownBy w' v.ownBlock ∧ w'.ownsRow n e size v k ys
theorem own_marked {P : Program} {f : FuncId} {args : Array Value} {n : Nat} {B : World → Prop} {W : World} {L : List Item} {e : TypeId} {size : Nat} {v r : Value} {k : Nat} {xs ys : List Value} {K : Ending → World → Prop}
    (hO : Own n B W (.row e size v k xs :: L)) (h : W.ownsRow n e size v k xs → Calls P f args W (MarkedTo n e size v k r ys W)) (k' : ∀ w1, Own n B w1 (.row e size v k ys :: L) → K (.returned r) w1) : Calls P f args W K :=
  (h hO.1.1).mono fun e' w' ⟨he, hg, hr⟩ => by subst he; exact k' w' (hO.regrown hg hr (Or.inl rfl))

set_option maxHeartbeats 4000000 in
theorem markNS_any (n : Nat) (e : TypeId) (va : Value) (v : List Nt) (k : Nat) (k0 : Int) (w : World) (ha : w.ownsRow n e 6 va k (vcC v)) (hv : v.length = k) (h0 : 0 ≤ k0) (h1 : k0 ≤ 10000000) (hk : k ≤ 10000000) :
    Calls Tryd.prog 33 #[va, .int .i64 k0] w (MarkedTo n e 6 va k (.int .i64 (k0 + 6 * (k : Int))) (vcC (mkN k0 k)) w) := by
  by_cases hk0 : k = 0
  · subst hk0
    obtain ⟨A, c, rfl⟩ := (SlAt.of_row ha).form
    have hl : v = [] := List.eq_nil_of_length_eq_zero hv
    subst hl
    have HA := hid ha
    clear ha
    go_enter Tryd.func33, Tryd.ntmps33
    go_wp2
    go_loop [1, 5] (fun s t => s = .int .i64 k0 ∧ t = .int .i64 0) (fun _ _ => 0)
    case atStart => exact ⟨rfl, rfl⟩
    case round =>
      obtain ⟨rfl, rfl⟩ := hrel
      go_wp2
      go_ret
      exact ⟨ret_int (by simp), grownBy_refl _ _, HA.out⟩
  · obtain ⟨g, c, rfl, k1, m1⟩ : ∃ g c, va = .slice (some ⟨g, 0, none⟩) k c ∧ k ≤ c ∧ c ≤ maxLen := by
      rcases ha.2 with ⟨_, h2⟩ | ⟨g, c, cur, h3, _, _, h4, h5, _⟩
      · exact absurd (by have := ha.1; rw [h2, vcC_len] at this; simp at this; omega) hk0
      · exact ⟨g, c, h3, h4, h5⟩
    have HA := hid ha
    have HV := hid hv
    unfold maxLen at m1
    clear ha hv
    go_enter Tryd.func33, Tryd.ntmps33
    go_wp2
    go_loopw [1, 5] (fun s t wr => ∃ j : Nat, j ≤ k ∧ t = .int .i64 j ∧ s = .int .i64 (k0 + 6 * (j : Int)) ∧ w.grownBy wr (some g) ∧ wr.ownsRow n e 6 (.slice (some ⟨g, 0, none⟩) k c) k (vcC (mixM k0 v j))) (fun _ t _ => k - (intOf t).toNat)
    case atStart => exact ⟨0, by omega, rfl, by simp, grownBy_refl _ _, HA.out⟩
    case round =>
      obtain ⟨j, hj, rfl, rfl, hg, hr⟩ := hrel
      have HG := hid hg
      have HR := hid hr
      by_cases he : j = k
      · subst he
        clear hg hr
        go_wp2
        go_ret
        exact ⟨rfl, HG.out, by have := HR.out; rwa [show mixM k0 v j = mkN k0 j by have := mixM_full k0 v; rwa [HV.out] at this] at this⟩
      · have hlt : j < k := by omega
        have hlt2 : (j : Int) < k := by omega
        obtain ⟨z, hz⟩ : ∃ z, (mixM k0 v j)[j]? = some z := ⟨_, List.getElem?_eq_getElem (by rw [mixM_len k0 v j (by have := HV.out; omega)]; have := HV.out; omega)⟩
        obtain ⟨E0, E1, E2, E3, E4, E5⟩ := vcC_at hz
        have c0 := ownsRow_cell hr E0
        have c1 := ownsRow_cell hr E1
        have c2 := ownsRow_cell hr E2
        have c3 := ownsRow_cell hr E3
        have c4 := ownsRow_cell hr E4
        have c5 := ownsRow_cell hr E5
        have f0 := ownsRow_frozen hr (j * 6)
        have f1 := ownsRow_frozen hr (j * 6 + 1)
        have f2 := ownsRow_frozen hr (j * 6 + 2)
        have f3 := ownsRow_frozen hr (j * 6 + 3)
        have f4 := ownsRow_frozen hr (j * 6 + 4)
        have f5 := ownsRow_frozen hr (j * 6 + 5)
        have HP := hid (mixM_put (k0 := k0) (v := v) (j := j) (by have := HV.out; omega))
        have p0 : 0 ≤ k0 + 6 * (j : Int) := by omega
        have p5 : 0 ≤ k0 + 6 * (j : Int) + 1 + 1 + 1 + 1 + 1 := by omega
        have pb : k0 + 6 * (j : Int) ≤ 100000000 := by omega
        obtain ⟨p, hp⟩ : ∃ p, k0 + 6 * (j : Int) = p := ⟨_, rfl⟩
        have HQ := hid hp
        rw [hp] at HP p0 p5 pb
        rw [hp]
        clear he E0 E1 E2 E3 E4 E5 hz hg hr hp
        go_wp2
        go_roundw
        case rel =>
          refine ⟨j + 1, by omega, by go_num, ?_, grownBy_set3 (grownBy_set3 (grownBy_set3 (grownBy_set3 (grownBy_set3 (grownBy_set3 HG.out _ _) _ _) _ _) _ _) _ _) _ _, ?_⟩
          · show Value.int .i64 _ = Value.int .i64 _
            have := HQ.out
            congr 1; push_cast; omega
          · have := ownsRow_set (ownsRow_set (ownsRow_set (ownsRow_set (ownsRow_set (ownsRow_set HR.out (j * 6) (.bool (nmN p).r)) (j * 6 + 1) (.int .i64 (nmN p).s)) (j * 6 + 2) (.int .i64 (nmN p).a)) (j * 6 + 3) (.int .i64 (nmN p).o)) (j * 6 + 4) (.int .i64 (nmN p).t)) (j * 6 + 5) (.bool (nmN p).y)
            rw [HP.out] at this
            exact this
        case measure => simp [intOf]; omega

set_option maxHeartbeats 4000000 in
theorem heldNS_mk (va : Value) (k : Nat) (k0 : Int) (w : World) (ha : SlAt w va k 6 (vcC (mkN k0 k))) (h0 : 0 ≤ k0) (h1 : k0 ≤ 10000000) (hk : k ≤ 10000000) :
    Calls Tryd.prog 34 #[va, .int .i64 k0] w fun e w' => e = .returned (.int .i64 (k0 + 6 * (k : Int))) ∧ w = w' := by
  obtain ⟨A, c, rfl, nb, hA⟩ := ha.open
  have HA := hid ha
  clear ha
  go_enter Tryd.func34, Tryd.ntmps34
  go_wp2
  go_loop [1, 5] (fun s t => ∃ j : Nat, j ≤ k ∧ t = .int .i64 j ∧ s = .int .i64 (k0 + 6 * (j : Int))) (fun _ t => k - (intOf t).toNat)
  case atStart => exact ⟨0, by omega, rfl, by simp⟩
  case round =>
    obtain ⟨j, hj, rfl, rfl⟩ := hrel
    by_cases he : j = k
    · subst he
      go_wp2
      go_ret
      exact ⟨rfl, rfl⟩
    · have hlt : j < k := by omega
      have hlt2 : (j : Int) < k := by omega
      obtain ⟨b, off, rfl, hc1, hc2, hb⟩ := hA (by omega)
      obtain ⟨d0, d1, d2, d3, d4, d5⟩ := noteAt HA.out (mkN_at hlt)
      have p0 : 0 ≤ k0 + 6 * (j : Int) := by omega
      have pb : k0 + 6 * (j : Int) ≤ 100000000 := by omega
      obtain ⟨p, hp⟩ : ∃ p, k0 + 6 * (j : Int) = p := ⟨_, rfl⟩
      have HQ := hid hp
      rw [hp] at d0 d1 d2 d3 d4 d5 p0 pb
      rw [hp]
      simp only [nmN] at d0 d1 d2 d3 d4 d5
      have p5 : 0 ≤ p + 1 + 1 + 1 + 1 + 1 := by omega
      clear he hp
      go_wp2
      go_round
      case rel =>
        refine ⟨j + 1, by omega, by go_num, ?_⟩
        show Value.int .i64 _ = Value.int .i64 _
        have := HQ.out
        congr 1; push_cast; omega
      case measure => simp [intOf]; omega
end Go.Proofs.YtcgcnkddgihkpaaDoor
