/- The walk of FnTonalAnswer, from what the functions answer. -/
import Derived.Test.YtcgcnkddgihkpaaDoorDraws17
import Derived.Test.YtcgcnkddgihkpaaDoorCon17
import Derived.Test.YtcgcnkddgihkpaaDoorLawsVo
namespace Go.Proofs.YtcgcnkddgihkpaaDoor
set_option linter.unusedSimpArgs false
set_option linter.unusedVariables false
set_option maxRecDepth 8000
open Go.RowKit

/-- The degree of the answer to a note, in the order in which the law asks. -/
theorem ta_ways {f : Int} {m : Bool} {v : List Nt} {h : Int} {k : Nat} {x : Nt} {d z : Int} (hb : taB f m v h = true) (hx : v[k]? = some x) (hr : x.r = false) (hd : dgZ f m x.s = d) (hz : x.a - altZ f x.s = z) :
    pvB (anX f m h k x).s (anX f m h k x).a (anX f m h k x).o = true ∧
      ((¬ (k : Int) < h ∧ h ≤ k ∧ dgZ f m (anX f m h k x).s = (d + 4) % 7) ∨ ((k : Int) < h ∧ ¬ h ≤ k ∧ ¬ d = 4 ∧ (d == 4) = false ∧ dgZ f m (anX f m h k x).s = (d + 4) % 7) ∨ ((k : Int) < h ∧ ¬ h ≤ k ∧ d = 4 ∧ ¬ z = 0 ∧ (z == 0) = false ∧ dgZ f m (anX f m h k x).s = 1) ∨ ((k : Int) < h ∧ ¬ h ≤ k ∧ d = 4 ∧ z = 0 ∧ dgZ f m (anX f m h k x).s = 0)) := by
  obtain ⟨g1, g2, _⟩ := ta_iff.1 hb
  have hp := vo_pv g2 hx
  obtain ⟨e1, e2⟩ := ta_deg hb hx hr
  refine ⟨e1, ?_⟩
  rw [e2, by_note hr g1 hp, hd, hz]
  by_cases q1 : (k : Int) < h
  · by_cases q2 : d = 4
    · by_cases q3 : z = 0
      · refine .inr (.inr (.inr ⟨q1, by omega, q2, q3, ?_⟩))
        rw [decide_eq_true q1, decide_eq_true q2, decide_eq_true q3, q2]; rfl
      · refine .inr (.inr (.inl ⟨q1, by omega, q2, q3, by simpa using q3, ?_⟩))
        rw [decide_eq_true q1, decide_eq_true q2, decide_eq_false q3, q2]; rfl
    · refine .inr (.inl ⟨q1, by omega, q2, by simpa using q2, ?_⟩)
      rw [decide_eq_true q1, decide_eq_false q2]; rfl
  · refine .inl ⟨q1, by omega, ?_⟩
    rw [decide_eq_false q1]; rfl

set_option maxRecDepth 20000 in
set_option maxHeartbeats 8000000 in
theorem fnTonalAnswer_of (v : Value) (n0 : Nat) (w : World) (hn : n0 ≤ maxLen) (h : BytesB w w.heap.size v n0) (ht : TabH w)
    (hS : CTa 23 w) (hI : CTa 22 w) (hR : CRa 16 w) (hV : CBool 25 voB w) (hT : CInt 26 vtZ w)
    (hD : ∀ (f : Int) (m : Bool) (s a o : Int) (W : World), Below w.heap.size w W → (keyB f && pvB s a o) = true → Calls Tryd.prog 24 #[.int .i64 f, .bool m, .agg #[.int .i64 s, .int .i64 a, .int .i64 o]] W fun e w' => e = .returned (.tuple #[.int .i64 (dgZ f m s), .int .i64 (a - altZ f s)]) ∧ Below W.heap.size W w') :
    Calls Tryd.prog 4 #[v] w fun e w' => e = .returned (.bool true) ∧ Below w.heap.size w w' := by
  obtain ⟨a0, c0, rfl⟩ := h.form
  have hn' : (n0 : Int) ≤ 9223372036854775807 := by unfold maxLen at hn; omega
  by_cases hl : n0 ≤ 1048576
  · have hl' : (n0 : Int) ≤ 1048576 := by omega
    have HA := hid (And.intro hS (And.intro hI (And.intro hR (And.intro hV (And.intro hT hD)))))
    clear hS hI hR hV hT hD
    go_enter Tryd.func4, Tryd.ntmps4
    go_wp2_with (go_at_call 21; refine (DrawTonalAnswer_any _ n0 _ hn h).mono ?_; rintro e w1 ⟨f, m, u, vs, hd, hf, hvl, hh, rfl, hO⟩; have hF := hO; (try simp only [Own, Item.Holds, apartI, CellsAt, Nat.reduceAdd, Nat.zero_add, List.mem_cons, List.not_mem_nil, or_false, forall_eq_or_imp, forall_eq, ne_eq, false_imp_iff, implies_true, and_true] at hF); clear hn h)
    have hv9 : vs.length ≤ 1048576 := by omega
    have r1 : r64 f := by unfold r64; omega
    have r2 : r64 hd := by unfold r64; omega
    cases hb : taB f m vs hd
    · have HS := hid (HA.out.1.is (v := vs) rfl hv9 r1 r2 (taL_no hb) (show ([] : List Nt).length = 0 from rfl) hb)
      have HI := hid (HA.out.2.1.is (v := vs) rfl hv9 r1 r2 (taL_no hb) (show ([] : List Nt).length = 0 from rfl) hb)
      clear hb HA r1 r2
      go_wp2_with (first | ((go_at_call 22; apply own_at hO; (repeat (first | (with_reducible exact hO) | (with_reducible apply Own.alloc) | (with_reducible apply Own.drew) | ((with_reducible apply Own.set_at); (focus (show _ ≤ _; omega))))); have hG := hF; clear hF; clear hO; intro hO; refine own_call_rowB hO (fun hB => HI.out _ _ hB (SlAt.of_row hO.1.1)) ?_; clear hO; intro v w1 hO; (try simp only [World.size_alloc1, World.size_drew, Nat.reduceAdd] at hO); (try simp only [upd, updI, List.map_cons, List.map_nil, eq_self, if_true, if_false, reduceIte, Nat.add_eq_left, Nat.left_eq_add, Nat.reduceEqDiff, List.set_cons_zero, List.set_cons_succ, hG] at hO); clear hG; have hF := hO; (try simp only [Own, Item.Holds, apartI, CellsAt, Nat.reduceAdd, Nat.zero_add, List.mem_cons, List.not_mem_nil, or_false, forall_eq_or_imp, forall_eq, ne_eq, false_imp_iff, implies_true, and_true] at hF)); obtain ⟨A1, cp1, hv1⟩ := (SlAt.of_row hO.1.1).form; subst hv1) | (go_at_call 23; apply own_at hO; (repeat (first | (with_reducible exact hO) | (with_reducible apply Own.alloc) | (with_reducible apply Own.drew) | ((with_reducible apply Own.set_at); (focus (show _ ≤ _; omega))))); have hG := hF; clear hF; clear hO; intro hO; refine own_call_rowB hO (fun hB => HS.out _ _ hB (SlAt.of_row hO.2.1.1)) ?_; clear hO; intro v w1 hO; (try simp only [World.size_alloc1, World.size_drew, Nat.reduceAdd] at hO); (try simp only [upd, updI, List.map_cons, List.map_nil, eq_self, if_true, if_false, reduceIte, Nat.add_eq_left, Nat.left_eq_add, Nat.reduceEqDiff, List.set_cons_zero, List.set_cons_succ, hG] at hO); clear hG; have hF := hO; (try simp only [Own, Item.Holds, apartI, CellsAt, Nat.reduceAdd, Nat.zero_add, List.mem_cons, List.not_mem_nil, or_false, forall_eq_or_imp, forall_eq, ne_eq, false_imp_iff, implies_true, and_true] at hF)) | (go_at_call 18; apply own_at hO; (repeat (first | (with_reducible exact hO) | (with_reducible apply Own.alloc) | (with_reducible apply Own.drew) | ((with_reducible apply Own.set_at); (focus (show _ ≤ _; omega))))); have hG := hF; clear hF; clear hO; intro hO; refine own_callO hO (fun hW => sameVoice_same _ _ [] _ (SlAt.of_row hW.2.1.1) (SlAt.of_row hW.1.1)) ?_; clear hO; intro w1 hO; (try simp only [World.size_alloc1, World.size_drew, Nat.reduceAdd] at hO); (try simp only [upd, updI, List.map_cons, List.map_nil, eq_self, if_true, if_false, reduceIte, Nat.add_eq_left, Nat.left_eq_add, Nat.reduceEqDiff, List.set_cons_zero, List.set_cons_succ, hG] at hO); clear hG; have hF := hO; (try simp only [Own, Item.Holds, apartI, CellsAt, Nat.reduceAdd, Nat.zero_add, List.mem_cons, List.not_mem_nil, or_false, forall_eq_or_imp, forall_eq, ne_eq, false_imp_iff, implies_true, and_true] at hF)) | (go_at_call 19; apply own_at hO; (repeat (first | (with_reducible exact hO) | (with_reducible apply Own.alloc) | (with_reducible apply Own.drew) | ((with_reducible apply Own.set_at); (focus (show _ ≤ _; omega))))); have hG := hF; clear hF; clear hO; intro hO; refine own_call hO (fun hB => alive_any _ (ht.below hB)) ?_; clear hO; intro w1 hO; (try simp only [World.size_alloc1, World.size_drew, Nat.reduceAdd] at hO); (try simp only [upd, updI, List.map_cons, List.map_nil, eq_self, if_true, if_false, reduceIte, Nat.add_eq_left, Nat.left_eq_add, Nat.reduceEqDiff, List.set_cons_zero, List.set_cons_succ, hG] at hO); clear hG; have hF := hO; (try simp only [Own, Item.Holds, apartI, CellsAt, Nat.reduceAdd, Nat.zero_add, List.mem_cons, List.not_mem_nil, or_false, forall_eq_or_imp, forall_eq, ne_eq, false_imp_iff, implies_true, and_true] at hF)))
      go_ret
      exact ⟨rfl, Own.base (by (repeat (first | (with_reducible exact hO) | (with_reducible apply Own.alloc) | (with_reducible apply Own.drew) | ((with_reducible apply Own.set_at); (focus (show _ ≤ _; omega))))))⟩
    · obtain ⟨g1, g2, g3, g4, g5, g6⟩ := ta_iff.1 hb
      obtain ⟨n, hnl⟩ : ∃ n, vs.length = n := ⟨_, rfl⟩
      have hx2 : (anL f m hd vs).length = n := by rw [an_len]; exact hnl
      rw [hnl] at hO hv9 hvl
      obtain ⟨rk, hrk⟩ : ∃ k, (shL vs 4 7).length = k := ⟨_, rfl⟩
      obtain ⟨rl, hrl⟩ : ∃ l, shL vs 4 7 = l := ⟨_, rfl⟩
      rw [hrl] at hrk
      have HS := hid (HA.out.1.is hnl hv9 r1 r2 (taL_yes hb) hx2 hb)
      have HI := hid (HA.out.2.1.is hnl hv9 r1 r2 (taL_yes hb) hx2 hb)
      have HR := hid (HA.out.2.2.1.is hnl hv9 hrl hrk rfl)
      have HV := hid (HA.out.2.2.2.1.is (v := anL f m hd vs) (by omega) g6)
      have HT := hid (HA.out.2.2.2.2.1.is (v := vs) (by omega) rfl)
      have HT2 := hid (HA.out.2.2.2.2.1.is (v := anL f m hd vs) (by omega) (an_vt hb))
      rw [hx2] at HV HT2
      rw [hnl] at HT
      have HD := hid (fun (s a o : Int) (hp : pvB s a o = true) W hW => HA.out.2.2.2.2.2 f m s a o W hW (by rw [g1, hp]; rfl))
      have HRL := hid (show hd = 0 → rl = anL f m hd vs ∧ rk = n from fun e => by
        subst e
        have e1 : rl = anL f m 0 vs := by rw [← hrl, ta_shL hb]
        exact ⟨e1, by rw [← hrk, e1]; exact hx2⟩)
      have HB := hid hb
      have HN := hid hnl
      have HVO := hid g2
      have HX2 := hid hx2
      have HXV := hid (fun va vb W (h1 : SlAt W va n 6 (vcC (anL f m hd vs))) (h2 : SlAt W vb n 6 (vcC (anL f m hd vs))) => sameVoice_same va vb (anL f m hd vs) W (by rw [hx2]; exact h1) (by rw [hx2]; exact h2))
      obtain ⟨sb, hsb⟩ : ∃ b, shB vs 4 7 = b := ⟨_, rfl⟩
      rw [hsb] at HR
      obtain ⟨x, hx⟩ : ∃ x, anL f m hd vs = x := ⟨_, rfl⟩
      rw [hx] at HS HI HV HT2 HXV HRL
      have HXE := hid hx
      obtain ⟨A0, cp0, hv0⟩ := (SlAt.of_row hO.1.1).form
      subst hv0
      clear hb HA r1 r2 g1 g2 g4 g5 g6 hnl hx2 hrk hrl hsb hx
      go_wp2_with fail
      (go_at_call 22; apply own_at hO; (repeat (first | (with_reducible exact hO) | (with_reducible apply Own.alloc) | (with_reducible apply Own.drew) | ((with_reducible apply Own.set_at); (focus (show _ ≤ _; omega))))); have hG := hF; clear hF; clear hO; intro hO; refine own_call_rowB hO (fun hB => HI.out _ _ hB (SlAt.of_row hO.1.1)) ?_; clear hO; intro v w1 hO; (try simp only [World.size_alloc1, World.size_drew, Nat.reduceAdd] at hO); (try simp only [upd, updI, List.map_cons, List.map_nil, eq_self, if_true, if_false, reduceIte, Nat.add_eq_left, Nat.left_eq_add, Nat.reduceEqDiff, List.set_cons_zero, List.set_cons_succ, hG] at hO); clear hG; have hF := hO; (try simp only [Own, Item.Holds, apartI, CellsAt, Nat.reduceAdd, Nat.zero_add, List.mem_cons, List.not_mem_nil, or_false, forall_eq_or_imp, forall_eq, ne_eq, false_imp_iff, implies_true, and_true] at hF))
      obtain ⟨A1, cp1, hv1⟩ := (SlAt.of_row hO.1.1).form
      subst hv1
      go_wp2_with fail
      (go_at_call 23; apply own_at hO; (repeat (first | (with_reducible exact hO) | (with_reducible apply Own.alloc) | (with_reducible apply Own.drew) | ((with_reducible apply Own.set_at); (focus (show _ ≤ _; omega))))); have hG := hF; clear hF; clear hO; intro hO; refine own_call_rowB hO (fun hB => HS.out _ _ hB (SlAt.of_row hO.2.1.1)) ?_; clear hO; intro v w1 hO; (try simp only [World.size_alloc1, World.size_drew, Nat.reduceAdd] at hO); (try simp only [upd, updI, List.map_cons, List.map_nil, eq_self, if_true, if_false, reduceIte, Nat.add_eq_left, Nat.left_eq_add, Nat.reduceEqDiff, List.set_cons_zero, List.set_cons_succ, hG] at hO); clear hG; have hF := hO; (try simp only [Own, Item.Holds, apartI, CellsAt, Nat.reduceAdd, Nat.zero_add, List.mem_cons, List.not_mem_nil, or_false, forall_eq_or_imp, forall_eq, ne_eq, false_imp_iff, implies_true, and_true] at hF))
      obtain ⟨A2, cp2, hv2⟩ := (SlAt.of_row hO.1.1).form
      subst hv2
      go_wp2_with (go_at_call 18; apply own_at hO; (repeat (first | (with_reducible exact hO) | (with_reducible apply Own.alloc) | (with_reducible apply Own.drew) | ((with_reducible apply Own.set_at); (focus (show _ ≤ _; omega))))); have hG := hF; clear hF; clear hO; intro hO; refine own_callO hO (fun hW => HXV.out _ _ _ (SlAt.of_row hW.2.1.1) (SlAt.of_row hW.1.1)) ?_; clear hO; intro w1 hO; (try simp only [World.size_alloc1, World.size_drew, Nat.reduceAdd] at hO); (try simp only [upd, updI, List.map_cons, List.map_nil, eq_self, if_true, if_false, reduceIte, Nat.add_eq_left, Nat.left_eq_add, Nat.reduceEqDiff, List.set_cons_zero, List.set_cons_succ, hG] at hO); clear hG; have hF := hO; (try simp only [Own, Item.Holds, apartI, CellsAt, Nat.reduceAdd, Nat.zero_add, List.mem_cons, List.not_mem_nil, or_false, forall_eq_or_imp, forall_eq, ne_eq, false_imp_iff, implies_true, and_true] at hF))
      (apply own_code hO; (repeat (first | (with_reducible exact hO) | (with_reducible apply Own.alloc) | (with_reducible apply Own.drew) | ((with_reducible apply Own.set_at); (focus (show _ ≤ _; omega))))); have hG := hF; clear hF; clear hO; intro hO; (try simp only [World.size_alloc1, World.size_drew, Nat.reduceAdd] at hO); (try simp only [upd, updI, List.map_cons, List.map_nil, eq_self, if_true, if_false, reduceIte, Nat.add_eq_left, Nat.left_eq_add, Nat.reduceEqDiff, List.set_cons_zero, List.set_cons_succ, hG] at hO); clear hG; have hF := hO; (try simp only [Own, Item.Holds, apartI, CellsAt, Nat.reduceAdd, Nat.zero_add, List.mem_cons, List.not_mem_nil, or_false, forall_eq_or_imp, forall_eq, ne_eq, false_imp_iff, implies_true, and_true] at hF))
      have hOs := Own.sub (.cons_cons _ (.cons_cons _ (.cons_cons _ (List.nil_sublist _)))) hO
      clear hO
      go_loopw [11] (fun t wr => ∃ j : Nat, j ≤ n ∧ t = .int .i64 j ∧ Own w.heap.size (Below w.heap.size w) wr [.row 39 6 (.slice A2 n cp2) n (vcC x), .row 39 6 (.slice A1 n cp1) n (vcC x), .row 39 6 (.slice A0 n cp0) n (vcC vs)]) (fun t _ => n - (intOf t).toNat)
      case atStart => exact ⟨0, by omega, rfl, hOs⟩
      case round =>
        clear hOs hF
        obtain ⟨j, hj, rfl, hO⟩ := hrel
        have hF := True.intro
        by_cases he : j = n
        · subst he
          have hnn : ((j : Int) == (j : Int)) = true := by simp
          by_cases hd0 : 0 < hd
          · go_wp2_with (first | (go_at_call 16; apply own_at hO; (repeat (first | (with_reducible exact hO) | (with_reducible apply Own.alloc) | (with_reducible apply Own.drew) | ((with_reducible apply Own.set_at); (focus (show _ ≤ _; omega))))); have hG := hF; clear hF; clear hO; intro hO; refine own_call_rowB hO (fun hB => HR.out _ _ hB (SlAt.of_row hO.2.2.1.1)) ?_; clear hO; intro v w1 hO; (try simp only [World.size_alloc1, World.size_drew, Nat.reduceAdd] at hO); (try simp only [upd, updI, List.map_cons, List.map_nil, eq_self, if_true, if_false, reduceIte, Nat.add_eq_left, Nat.left_eq_add, Nat.reduceEqDiff, List.set_cons_zero, List.set_cons_succ, hG] at hO); clear hG; have hF := hO; (try simp only [Own, Item.Holds, apartI, CellsAt, Nat.reduceAdd, Nat.zero_add, List.mem_cons, List.not_mem_nil, or_false, forall_eq_or_imp, forall_eq, ne_eq, false_imp_iff, implies_true, and_true] at hF)) | (go_at_call 25; apply own_at hO; (repeat (first | (with_reducible exact hO) | (with_reducible apply Own.alloc) | (with_reducible apply Own.drew) | ((with_reducible apply Own.set_at); (focus (show _ ≤ _; omega))))); have hG := hF; clear hF; clear hO; intro hO; refine own_callO hO (fun hW => HV.out _ _ hW.base (SlAt.of_row hW.2.2.1.1)) ?_; clear hO; intro w1 hO; (try simp only [World.size_alloc1, World.size_drew, Nat.reduceAdd] at hO); (try simp only [upd, updI, List.map_cons, List.map_nil, eq_self, if_true, if_false, reduceIte, Nat.add_eq_left, Nat.left_eq_add, Nat.reduceEqDiff, List.set_cons_zero, List.set_cons_succ, hG] at hO); clear hG; have hF := hO; (try simp only [Own, Item.Holds, apartI, CellsAt, Nat.reduceAdd, Nat.zero_add, List.mem_cons, List.not_mem_nil, or_false, forall_eq_or_imp, forall_eq, ne_eq, false_imp_iff, implies_true, and_true] at hF)) | (go_at_call 26; apply own_at hO; (repeat (first | (with_reducible exact hO) | (with_reducible apply Own.alloc) | (with_reducible apply Own.drew) | ((with_reducible apply Own.set_at); (focus (show _ ≤ _; omega))))); have hG := hF; clear hF; clear hO; intro hO; refine own_callO hO (fun hW => HT2.out _ _ hW.base (SlAt.of_row hW.2.2.1.1)) ?_; clear hO; intro w1 hO; (try simp only [World.size_alloc1, World.size_drew, Nat.reduceAdd] at hO); (try simp only [upd, updI, List.map_cons, List.map_nil, eq_self, if_true, if_false, reduceIte, Nat.add_eq_left, Nat.left_eq_add, Nat.reduceEqDiff, List.set_cons_zero, List.set_cons_succ, hG] at hO); clear hG; have hF := hO; (try simp only [Own, Item.Holds, apartI, CellsAt, Nat.reduceAdd, Nat.zero_add, List.mem_cons, List.not_mem_nil, or_false, forall_eq_or_imp, forall_eq, ne_eq, false_imp_iff, implies_true, and_true] at hF)) | (go_at_call 26; apply own_at hO; (repeat (first | (with_reducible exact hO) | (with_reducible apply Own.alloc) | (with_reducible apply Own.drew) | ((with_reducible apply Own.set_at); (focus (show _ ≤ _; omega))))); have hG := hF; clear hF; clear hO; intro hO; refine own_callO hO (fun hW => HT.out _ _ hW.base (SlAt.of_row hW.2.2.2.1.1)) ?_; clear hO; intro w1 hO; (try simp only [World.size_alloc1, World.size_drew, Nat.reduceAdd] at hO); (try simp only [upd, updI, List.map_cons, List.map_nil, eq_self, if_true, if_false, reduceIte, Nat.add_eq_left, Nat.left_eq_add, Nat.reduceEqDiff, List.set_cons_zero, List.set_cons_succ, hG] at hO); clear hG; have hF := hO; (try simp only [Own, Item.Holds, apartI, CellsAt, Nat.reduceAdd, Nat.zero_add, List.mem_cons, List.not_mem_nil, or_false, forall_eq_or_imp, forall_eq, ne_eq, false_imp_iff, implies_true, and_true] at hF)))
            go_ret
            exact ⟨rfl, Own.base (by (repeat (first | (with_reducible exact hO) | (with_reducible apply Own.alloc) | (with_reducible apply Own.drew) | ((with_reducible apply Own.set_at); (focus (show _ ≤ _; omega))))))⟩
          · obtain rfl : hd = 0 := by omega
            obtain ⟨rfl, rfl⟩ := HRL.out rfl
            clear hd0 g3 hh
            go_wp2_with (first | (go_at_call 16; apply own_at hO; (repeat (first | (with_reducible exact hO) | (with_reducible apply Own.alloc) | (with_reducible apply Own.drew) | ((with_reducible apply Own.set_at); (focus (show _ ≤ _; omega))))); have hG := hF; clear hF; clear hO; intro hO; refine own_call_rowB hO (fun hB => HR.out _ _ hB (SlAt.of_row hO.2.2.1.1)) ?_; clear hO; intro v w1 hO; (try simp only [World.size_alloc1, World.size_drew, Nat.reduceAdd] at hO); (try simp only [upd, updI, List.map_cons, List.map_nil, eq_self, if_true, if_false, reduceIte, Nat.add_eq_left, Nat.left_eq_add, Nat.reduceEqDiff, List.set_cons_zero, List.set_cons_succ, hG] at hO); clear hG; have hF := hO; (try simp only [Own, Item.Holds, apartI, CellsAt, Nat.reduceAdd, Nat.zero_add, List.mem_cons, List.not_mem_nil, or_false, forall_eq_or_imp, forall_eq, ne_eq, false_imp_iff, implies_true, and_true] at hF)) | (go_at_call 25; apply own_at hO; (repeat (first | (with_reducible exact hO) | (with_reducible apply Own.alloc) | (with_reducible apply Own.drew) | ((with_reducible apply Own.set_at); (focus (show _ ≤ _; omega))))); have hG := hF; clear hF; clear hO; intro hO; refine own_callO hO (fun hW => HV.out _ _ hW.base (SlAt.of_row hW.2.2.1.1)) ?_; clear hO; intro w1 hO; (try simp only [World.size_alloc1, World.size_drew, Nat.reduceAdd] at hO); (try simp only [upd, updI, List.map_cons, List.map_nil, eq_self, if_true, if_false, reduceIte, Nat.add_eq_left, Nat.left_eq_add, Nat.reduceEqDiff, List.set_cons_zero, List.set_cons_succ, hG] at hO); clear hG; have hF := hO; (try simp only [Own, Item.Holds, apartI, CellsAt, Nat.reduceAdd, Nat.zero_add, List.mem_cons, List.not_mem_nil, or_false, forall_eq_or_imp, forall_eq, ne_eq, false_imp_iff, implies_true, and_true] at hF)) | (go_at_call 26; apply own_at hO; (repeat (first | (with_reducible exact hO) | (with_reducible apply Own.alloc) | (with_reducible apply Own.drew) | ((with_reducible apply Own.set_at); (focus (show _ ≤ _; omega))))); have hG := hF; clear hF; clear hO; intro hO; refine own_callO hO (fun hW => HT2.out _ _ hW.base (SlAt.of_row hW.2.2.1.1)) ?_; clear hO; intro w1 hO; (try simp only [World.size_alloc1, World.size_drew, Nat.reduceAdd] at hO); (try simp only [upd, updI, List.map_cons, List.map_nil, eq_self, if_true, if_false, reduceIte, Nat.add_eq_left, Nat.left_eq_add, Nat.reduceEqDiff, List.set_cons_zero, List.set_cons_succ, hG] at hO); clear hG; have hF := hO; (try simp only [Own, Item.Holds, apartI, CellsAt, Nat.reduceAdd, Nat.zero_add, List.mem_cons, List.not_mem_nil, or_false, forall_eq_or_imp, forall_eq, ne_eq, false_imp_iff, implies_true, and_true] at hF)) | (go_at_call 26; apply own_at hO; (repeat (first | (with_reducible exact hO) | (with_reducible apply Own.alloc) | (with_reducible apply Own.drew) | ((with_reducible apply Own.set_at); (focus (show _ ≤ _; omega))))); have hG := hF; clear hF; clear hO; intro hO; refine own_callO hO (fun hW => HT.out _ _ hW.base (SlAt.of_row hW.2.2.2.1.1)) ?_; clear hO; intro w1 hO; (try simp only [World.size_alloc1, World.size_drew, Nat.reduceAdd] at hO); (try simp only [upd, updI, List.map_cons, List.map_nil, eq_self, if_true, if_false, reduceIte, Nat.add_eq_left, Nat.left_eq_add, Nat.reduceEqDiff, List.set_cons_zero, List.set_cons_succ, hG] at hO); clear hG; have hF := hO; (try simp only [Own, Item.Holds, apartI, CellsAt, Nat.reduceAdd, Nat.zero_add, List.mem_cons, List.not_mem_nil, or_false, forall_eq_or_imp, forall_eq, ne_eq, false_imp_iff, implies_true, and_true] at hF)) | (go_at_call 18; apply own_at hO; (repeat (first | (with_reducible exact hO) | (with_reducible apply Own.alloc) | (with_reducible apply Own.drew) | ((with_reducible apply Own.set_at); (focus (show _ ≤ _; omega))))); have hG := hF; clear hF; clear hO; intro hO; refine own_callO hO (fun hW => HXV.out _ _ _ (SlAt.of_row hW.2.2.1.1) (SlAt.of_row hW.1.1)) ?_; clear hO; intro w1 hO; (try simp only [World.size_alloc1, World.size_drew, Nat.reduceAdd] at hO); (try simp only [upd, updI, List.map_cons, List.map_nil, eq_self, if_true, if_false, reduceIte, Nat.add_eq_left, Nat.left_eq_add, Nat.reduceEqDiff, List.set_cons_zero, List.set_cons_succ, hG] at hO); clear hG; have hF := hO; (try simp only [Own, Item.Holds, apartI, CellsAt, Nat.reduceAdd, Nat.zero_add, List.mem_cons, List.not_mem_nil, or_false, forall_eq_or_imp, forall_eq, ne_eq, false_imp_iff, implies_true, and_true] at hF)))
            go_ret
            exact ⟨rfl, Own.base (by (repeat (first | (with_reducible exact hO) | (with_reducible apply Own.alloc) | (with_reducible apply Own.drew) | ((with_reducible apply Own.set_at); (focus (show _ ≤ _; omega))))))⟩
        · have hlt : j < n := by omega
          have hlt2 : (j : Int) < n := by omega
          have hj0 : (0 : Int) ≤ (j : Int) := by omega
          obtain ⟨q1', cq1, e1, hq1, hq2⟩ := hO.2.row_open (by omega)
          cases e1
          obtain ⟨q0', cq0, e0, hq3, hq4⟩ := hO.2.2.row_open (by omega)
          cases e0
          unfold maxLen at hq2 hq4
          obtain ⟨nt, hx⟩ : ∃ x, vs[j]? = some x := ⟨_, List.getElem?_eq_getElem (by have := HN.out; omega)⟩
          have HE := hid (vcC_at hx)
          have d0 := hO.2.2.row_cell HE.out.1
          have d1 := hO.2.2.row_cell HE.out.2.1
          have d2 := hO.2.2.row_cell HE.out.2.2.1
          have d3 := hO.2.2.row_cell HE.out.2.2.2.1
          have hX : x[j]? = some (anX f m hd j nt) := by rw [← HXE.out]; exact an_at hx
          have HJ := hid (And.intro hj hlt)
          cases hr : nt.r
          · obtain ⟨dz, hdz⟩ : ∃ z, dgZ f m nt.s = z := ⟨_, rfl⟩
            obtain ⟨mz, hmz⟩ : ∃ z, nt.a - altZ f nt.s = z := ⟨_, rfl⟩
            obtain ⟨hpx, hways⟩ := ta_ways HB.out hx hr hdz hmz
            have hD1 := HD.out nt.s nt.a nt.o (vo_pv HVO.out hx)
            rw [hdz, hmz] at hD1
            obtain ⟨X, hXX⟩ : ∃ X, anX f m hd j nt = X := ⟨_, rfl⟩
            rw [hXX] at hpx hways hX
            have HX9 := hid (vcC_at hX)
            have hD2 := HD.out X.s X.a X.o hpx
            obtain ⟨ez, hez⟩ : ∃ z, dgZ f m X.s = z := ⟨_, rfl⟩
            obtain ⟨ey, hey⟩ : ∃ z, X.a - altZ f X.s = z := ⟨_, rfl⟩
            rw [hez, hey] at hD2
            rw [hez] at hways
            have HD1 := hid hD1
            have HD2 := hid hD2
            have dd0 : 0 ≤ dz ∧ dz ≤ 6 := by rw [← hdz]; unfold dgZ; omega
            have w4 : IntKind.i64.wrap (dz + 4) = dz + 4 := IntWalk.i64_in _ (by omega)
            have m4 : (dz + 4).tmod 7 = (dz + 4) % 7 := Int.tmod_eq_emod_of_nonneg (by omega)
            rw [hr] at d0
            clear hr hx hX hj he hlt hdz hmz hez hey hpx hXX hD1 hD2
            rcases hways with ⟨p1, p2, rfl⟩ | ⟨p1, p2, p3, p4, rfl⟩ | ⟨p1, p2, rfl, p3, p4, rfl⟩ | ⟨p1, p2, rfl, rfl, rfl⟩
            all_goals
              clear dd0
              go_wp2_with (first | ((go_at_call 24; apply own_at hO; (repeat (first | (with_reducible exact hO) | (with_reducible apply Own.alloc) | (with_reducible apply Own.drew) | ((with_reducible apply Own.set_at); (focus (show _ ≤ _; omega))))); have hG := hF; clear hF; clear hO; intro hO; refine own_call hO (fun hB => HD1.out _ hB) ?_; clear hO; intro w1 hO; (try simp only [World.size_alloc1, World.size_drew, Nat.reduceAdd] at hO); (try simp only [upd, updI, List.map_cons, List.map_nil, eq_self, if_true, if_false, reduceIte, Nat.add_eq_left, Nat.left_eq_add, Nat.reduceEqDiff, List.set_cons_zero, List.set_cons_succ, hG] at hO); clear hG; have hF := hO; (try simp only [Own, Item.Holds, apartI, CellsAt, Nat.reduceAdd, Nat.zero_add, List.mem_cons, List.not_mem_nil, or_false, forall_eq_or_imp, forall_eq, ne_eq, false_imp_iff, implies_true, and_true] at hF)); have k1 := hO.2.row_cell HX9.out.2.1; have k2 := hO.2.row_cell HX9.out.2.2.1; have k3 := hO.2.row_cell HX9.out.2.2.2.1; clear HD1) | (go_at_call 24; apply own_at hO; (repeat (first | (with_reducible exact hO) | (with_reducible apply Own.alloc) | (with_reducible apply Own.drew) | ((with_reducible apply Own.set_at); (focus (show _ ≤ _; omega))))); have hG := hF; clear hF; clear hO; intro hO; refine own_call hO (fun hB => HD2.out _ hB) ?_; clear hO; intro w1 hO; (try simp only [World.size_alloc1, World.size_drew, Nat.reduceAdd] at hO); (try simp only [upd, updI, List.map_cons, List.map_nil, eq_self, if_true, if_false, reduceIte, Nat.add_eq_left, Nat.left_eq_add, Nat.reduceEqDiff, List.set_cons_zero, List.set_cons_succ, hG] at hO); clear hG; have hF := hO; (try simp only [Own, Item.Holds, apartI, CellsAt, Nat.reduceAdd, Nat.zero_add, List.mem_cons, List.not_mem_nil, or_false, forall_eq_or_imp, forall_eq, ne_eq, false_imp_iff, implies_true, and_true] at hF)))
              go_roundw
              case rel => exact ⟨j + 1, by have := HJ.out; omega, by go_num, hO⟩
              case measure => have := HJ.out; simp [intOf]; omega
          · rw [hr] at d0
            clear hr hx hX hj he hlt
            go_wp2_with fail
            go_roundw
            case rel => exact ⟨j + 1, by have := HJ.out; omega, by go_num, hO⟩
            case measure => have := HJ.out; simp [intOf]; omega
  · have hl' : (1048576 : Int) < n0 := by omega
    go_enter Tryd.func4, Tryd.ntmps4
    go_wp2
    go_ret
    exact ⟨rfl, Below.refl _ _⟩
end Go.Proofs.YtcgcnkddgihkpaaDoor
