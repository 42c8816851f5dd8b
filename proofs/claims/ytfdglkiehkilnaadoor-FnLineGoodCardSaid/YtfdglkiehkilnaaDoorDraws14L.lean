/- The function that draws for the laws of chapter 14 and 15: a key, a cantus and a line over it. -/
import Derived.Test.YtfdglkiehkilnaaDoorDraws14
import Derived.Test.YtfdglkiehkilnaaDoorWalks15N
import Derived.Test.YtfdglkiehkilnaaDoorRegionD
namespace Go.Proofs.YtfdglkiehkilnaaDoor
set_option linter.unusedSimpArgs false
set_option linter.unusedVariables false
set_option maxRecDepth 8000
open Go.RowKit

theorem countS_at {f lo hi : Int} {va : Value} {c : List Pt} {n : Nat} {z : Int} (hnl : c.length = n) (hn : n ≤ 1048576) (hz : clZ f c lo hi = z) (W : World) (hc : SlAt W va n 3 (pcC c)) :
    Calls Tryd.prog 89 #[.int .i64 f, va, .int .i64 lo, .int .i64 hi] W fun e w' => e = .returned (.int .i64 z) ∧ Below W.heap.size W w' := countS_is hnl hc hn hz W (Below.refl _ _)
theorem numberS_at {f lo hi m : Int} {va : Value} {c : List Pt} {n k : Nat} {l : List Pt} (hnl : c.length = n) (hn : n ≤ 1048576) (h : lbB f c lo hi m = true) (hl : lnZ f c lo hi m = l) (hk : l.length = k) (W : World) (hc : SlAt W va n 3 (pcC c)) :
    Calls Tryd.prog 90 #[.int .i64 f, va, .int .i64 lo, .int .i64 hi, .int .i64 m] W (RowOutB 29 3 k (pcC l) true W) := by
  subst hnl
  have := numberS_any f lo hi m va c W hc hn
  rw [hl, hk, h] at this
  exact this

/-- What drawing a key, a cantus and a line leaves. -/
def DrewOv (r : Nat) (P : Int) (w : World) (e : Ending) (w' : World) : Prop :=
  ∃ (f : Int) (u v : Value) (c l : List Pt), (-3 ≤ f ∧ f ≤ 8) ∧ (∀ x ∈ c, ptOk x) ∧ (∀ x ∈ l, ptOk x) ∧ c.length ≤ 6 ∧ l.length ≤ 8 ∧ e = .returned (.tuple #[.int .i64 f, u, v]) ∧
    Own w.heap.size (Bd r w (P + 150)) w' [.row 29 3 v l.length (pcC l), .row 29 3 u c.length (pcC c)]
theorem DrewOv.mk {r n m : Nat} {P Q : Int} {w w' : World} {f : Int} {u v : Value} {c l : List Pt} (hr : r < w.heap.size) (hf : -3 ≤ f ∧ f ≤ 8) (hc : ∀ x ∈ c, ptOk x) (hl : ∀ x ∈ l, ptOk x) (hn : c.length = n) (hm : l.length = m) (h6 : n ≤ 6) (h8 : m ≤ 8) (hO : Own w.heap.size (Bd r w Q) w' [.row 29 3 v m (pcC l), .row 29 3 u n (pcC c)]) (hQ : Q ≤ P + 150) : DrewOv r P w (.returned (.tuple #[.int .i64 f, u, v])) w' := by
  subst hn hm; exact ⟨f, u, v, c, l, hf, hc, hl, h6, h8, rfl, hO.mono hr hQ⟩

set_option maxRecDepth 20000 in
set_option maxHeartbeats 16000000 in
theorem l20Over_any (r : Nat) (P : Int) (w : World) (h : Rd w r P) (hP : P ≤ 600000) :
    Calls Tryd.prog 49 #[.pointer (some ⟨r, 0, none⟩)] w (DrewOv r P w) := by
  have hr0 := h.lt
  have hF := True.intro
  obtain ⟨i0, hi0, iz0, iz1, iz2⟩ := info_parts infoPi
  go_enter Tryd.func49, Tryd.ntmps49
  go_wp2_with fail
  refine (l20Cantus_any r P 14 _ h (by omega) (by omega) (by omega)).mono ?_
  rintro e w1 ⟨f, u, c, hf, hc, h1, h6, rfl, hO⟩
  obtain ⟨n, hn⟩ : ∃ n, c.length = n := ⟨_, rfl⟩
  rw [hn] at hO h1 h6
  obtain ⟨qc, cc, hu, hcc1, hcc2⟩ := hO.row_open (by omega)
  subst hu
  have hcc : cc ≤ 9223372036854775807 := by unfold maxLen at hcc2; omega
  have HN := hid hn
  have HFB := hid hf
  have HCB := hid hc
  have HCO := hid (show ∀ x ∈ c, ptOk x from fun x hx => cbOk_pt (hc x hx))
  have hn6 : n ≤ 6 := h6
  have hn0 : (0 : Int) ≤ (n : Int) := by omega
  obtain ⟨z, hz⟩ : ∃ z, clZ f c 48 72 = z := ⟨_, rfl⟩
  have hzb := clZ_bd (f := f) (c := c) (lo := 48) (hi := 72)
  rw [hz] at hzb
  have HZ := hid hz
  have HCL := hid (fun W => countS_at hn (by omega) hz W (va := .slice (some ⟨qc, 0, none⟩) n cc))
  clear h hf hc hn hcc2 h6 hz
  go_wp2_with fail
  have hO1 := (hO.allocRow (e := 29) (cur := #[]) (k := 0) (cap := 0) 3 (by omega) (by unfold maxLen; omega) rfl)
  rw [show List.take (0 * 3) (#[] : Array Value).toList = pcC [] from rfl] at hO1
  clear hO
  have hO := hO1
  clear hO1
  go_loopw [7, 8] (fun u t wr => ∃ (k : Nat) (l : List Pt), k ≤ n ∧ t = .int .i64 k ∧ l.length = k ∧ Hid (∀ x ∈ l, ptOk x) ∧ Own w.heap.size (Bd r w (P + 30 + 4 * k)) wr [.row 29 3 u k (pcC l), .row 29 3 (.slice (some ⟨qc, 0, none⟩) n cc) n (pcC c)]) (fun _ t _ => n - (intOf t).toNat)
  case atStart => exact ⟨0, [], by omega, rfl, rfl, hid (fun z hz => (by cases hz)), hO.mono hr0 (by omega)⟩
  case round =>
    clear hO hF
    obtain ⟨k, l, hk, rfl, hlk, hl, hO⟩ := hrel
    have hF := hO; (try simp only [Own, Item.Holds, apartI, CellsAt, Nat.reduceAdd, Nat.zero_add, List.mem_cons, List.not_mem_nil, or_false, forall_eq_or_imp, forall_eq, ne_eq, false_imp_iff, implies_true, and_true] at hF)
    by_cases he : n = k
    · subst he
      have HL := hid hlk
      have HOK := hid hl.out
      replace hO := hO.mono (Q := P + 60) hr0 (by omega)
      clear hlk hl
      obtain ⟨Al, cl, hvl⟩ := (SlAt.of_row hO.1.1).form
      subst hvl
      go_wp2_with fail
      (go_at_call 89; apply own_at hO; (repeat (first | (with_reducible exact hO) | (with_reducible apply Own.alloc) | (with_reducible apply Own.drew) | ((with_reducible apply Own.set_at); (focus (show _ ≤ _; omega))))); have hG := hF; clear hF; clear hO; intro hO; refine own_callO hO (fun hW => HCL.out _ (SlAt.of_row hW.2.1.1)) ?_; clear hO; intro w1 hO; (try simp only [World.size_alloc1, World.size_drew, Nat.reduceAdd] at hO); (try simp only [upd, updI, List.map_cons, List.map_nil, eq_self, if_true, if_false, reduceIte, Nat.add_eq_left, Nat.left_eq_add, Nat.reduceEqDiff, List.set_cons_zero, List.set_cons_succ, hG] at hO); clear hG; have hF := hO; (try simp only [Own, Item.Holds, apartI, CellsAt, Nat.reduceAdd, Nat.zero_add, List.mem_cons, List.not_mem_nil, or_false, forall_eq_or_imp, forall_eq, ne_eq, false_imp_iff, implies_true, and_true] at hF))
      clear HCL
      by_cases zp : 0 < z
      · have zp1 : decide ((0 : Int) < z) = true := decide_eq_true zp
        go_wp2_with fail
        (go_at_call 65; apply own_at hO; (repeat (first | (with_reducible exact hO) | (with_reducible apply Own.alloc) | (with_reducible apply Own.drew) | ((with_reducible apply Own.set_at); (focus (show _ ≤ _; omega))))); have hG := hF; clear hF; clear hO; intro hO; refine own_pick (k := 2) hO hr0 (by omega) (by omega) (by omega) ?_; clear hO; intro x w1 x0 x1 hO; (try simp only [World.size_alloc1, World.size_drew, Nat.reduceAdd] at hO); (try simp only [upd, updI, List.map_cons, List.map_nil, eq_self, if_true, if_false, reduceIte, Nat.add_eq_left, Nat.left_eq_add, Nat.reduceEqDiff, List.set_cons_zero, List.set_cons_succ, hG] at hO); clear hG; have hF := hO; (try simp only [Own, Item.Holds, apartI, CellsAt, Nat.reduceAdd, Nat.zero_add, List.mem_cons, List.not_mem_nil, or_false, forall_eq_or_imp, forall_eq, ne_eq, false_imp_iff, implies_true, and_true] at hF))
        rcases (show x = 0 ∨ x = 1 by omega) with rfl | rfl
        · clear x0 x1
          by_cases hz256 : z < 256
          · have g1 : z ≤ 256 := by omega
            have g2 : ¬ 256 < z := by omega
            have g3 : ¬ 256 ≤ z := by omega
            go_wp2_with fail
            (go_at_call 65; apply own_at hO; (repeat (first | (with_reducible exact hO) | (with_reducible apply Own.alloc) | (with_reducible apply Own.drew) | ((with_reducible apply Own.set_at); (focus (show _ ≤ _; omega))))); have hG := hF; clear hF; clear hO; intro hO; refine own_pick (k := z) hO hr0 (by omega) (by omega) (by omega) ?_; clear hO; intro x w1 x0 x1 hO; (try simp only [World.size_alloc1, World.size_drew, Nat.reduceAdd] at hO); (try simp only [upd, updI, List.map_cons, List.map_nil, eq_self, if_true, if_false, reduceIte, Nat.add_eq_left, Nat.left_eq_add, Nat.reduceEqDiff, List.set_cons_zero, List.set_cons_succ, hG] at hO); clear hG; have hF := hO; (try simp only [Own, Item.Holds, apartI, CellsAt, Nat.reduceAdd, Nat.zero_add, List.mem_cons, List.not_mem_nil, or_false, forall_eq_or_imp, forall_eq, ne_eq, false_imp_iff, implies_true, and_true] at hF))
            have HLB := hid (show lbB f c 48 72 x = true by unfold lbB; rw [HZ.out]; simp; omega)
            have hlg := (ln_good HLB.out).2.2.2
            clear x0 x1
            obtain ⟨l, hl9⟩ : ∃ l, lnZ f c 48 72 x = l := ⟨_, rfl⟩
            rw [hl9, HN.out] at hlg
            have HNU := hid (fun W => numberS_at HN.out (by omega) HLB.out hl9 hlg.1 W (va := .slice (some ⟨qc, 0, none⟩) n cc))
            replace HL := hid hlg.1
            replace HOK := hid (show ∀ x ∈ l, ptOk x from fun x hx => ptOk_pv (hlg.2 x hx).1)
            clear hlg hl9
            go_wp2_with fail
            (go_at_call 90; apply own_at hO; (repeat (first | (with_reducible exact hO) | (with_reducible apply Own.alloc) | (with_reducible apply Own.drew) | ((with_reducible apply Own.set_at); (focus (show _ ≤ _; omega))))); have hG := hF; clear hF; clear hO; intro hO; refine own_call_rowB hO (fun hB => HNU.out _ (SlAt.of_row hO.2.1.1)) ?_; clear hO; intro v w1 hO; (try simp only [World.size_alloc1, World.size_drew, Nat.reduceAdd] at hO); (try simp only [upd, updI, List.map_cons, List.map_nil, eq_self, if_true, if_false, reduceIte, Nat.add_eq_left, Nat.left_eq_add, Nat.reduceEqDiff, List.set_cons_zero, List.set_cons_succ, hG] at hO); clear hG; have hF := hO; (try simp only [Own, Item.Holds, apartI, CellsAt, Nat.reduceAdd, Nat.zero_add, List.mem_cons, List.not_mem_nil, or_false, forall_eq_or_imp, forall_eq, ne_eq, false_imp_iff, implies_true, and_true] at hF))
            replace hO := Own.sub (.cons_cons _ (.cons _ (.cons_cons _ .slnil))) hO
            obtain ⟨ql, kl, hvl2, hq1, hq2⟩ := hO.row_open (by omega)
            subst hvl2
            have hql : kl ≤ 9223372036854775807 := by unfold maxLen at hq2; omega
            clear hq2 hF HNU
            have hF := hO; (try simp only [Own, Item.Holds, apartI, CellsAt, Nat.reduceAdd, Nat.zero_add, List.mem_cons, List.not_mem_nil, or_false, forall_eq_or_imp, forall_eq, ne_eq, false_imp_iff, implies_true, and_true] at hF)
            go_wp2_with fail
            (go_at_call 68; apply own_at hO; (repeat (first | (with_reducible exact hO) | (with_reducible apply Own.alloc) | (with_reducible apply Own.drew) | ((with_reducible apply Own.set_at); (focus (show _ ≤ _; omega))))); have hG := hF; clear hF; clear hO; intro hO; refine own_odd hO hr0 (by omega) (by omega) (by omega) ?_; clear hO; intro x w1 hO; (try simp only [World.size_alloc1, World.size_drew, Nat.reduceAdd] at hO); (try simp only [upd, updI, List.map_cons, List.map_nil, eq_self, if_true, if_false, reduceIte, Nat.add_eq_left, Nat.left_eq_add, Nat.reduceEqDiff, List.set_cons_zero, List.set_cons_succ, hG] at hO); clear hG; have hF := hO; (try simp only [Own, Item.Holds, apartI, CellsAt, Nat.reduceAdd, Nat.zero_add, List.mem_cons, List.not_mem_nil, or_false, forall_eq_or_imp, forall_eq, ne_eq, false_imp_iff, implies_true, and_true] at hF))
            cases x
            · go_wp2_with fail
              (go_at_call 68; apply own_at hO; (repeat (first | (with_reducible exact hO) | (with_reducible apply Own.alloc) | (with_reducible apply Own.drew) | ((with_reducible apply Own.set_at); (focus (show _ ≤ _; omega))))); have hG := hF; clear hF; clear hO; intro hO; refine own_odd hO hr0 (by omega) (by omega) (by omega) ?_; clear hO; intro x w1 hO; (try simp only [World.size_alloc1, World.size_drew, Nat.reduceAdd] at hO); (try simp only [upd, updI, List.map_cons, List.map_nil, eq_self, if_true, if_false, reduceIte, Nat.add_eq_left, Nat.left_eq_add, Nat.reduceEqDiff, List.set_cons_zero, List.set_cons_succ, hG] at hO); clear hG; have hF := hO; (try simp only [Own, Item.Holds, apartI, CellsAt, Nat.reduceAdd, Nat.zero_add, List.mem_cons, List.not_mem_nil, or_false, forall_eq_or_imp, forall_eq, ne_eq, false_imp_iff, implies_true, and_true] at hF))
              cases x
              · go_wp2_with fail
                go_ret3
                exact DrewOv.mk hr0 HFB.out HCO.out HOK.out HN.out HL.out hn6 (by omega) hO (by omega)
              · go_wp2_with (at_builtin; apply own_list hO; (repeat (first | (with_reducible exact hO) | (with_reducible apply Own.alloc) | (with_reducible apply Own.drew) | ((with_reducible apply Own.set_at); (focus (show _ ≤ _; omega))))); have hG := hF; clear hF; clear hO; intro hO; (try simp only [World.size_alloc1, World.size_drew, Nat.reduceAdd] at hO); (try simp only [upd, updI, List.map_cons, List.map_nil, eq_self, if_true, if_false, reduceIte, Nat.add_eq_left, Nat.left_eq_add, Nat.reduceEqDiff, List.set_cons_zero, List.set_cons_succ, hG] at hO); clear hG; (try simp only [World.size_setCell] at hO); have hF := hO; (try simp only [Own, Item.Holds, apartI, CellsAt, Nat.reduceAdd, Nat.zero_add, List.mem_cons, List.not_mem_nil, or_false, forall_eq_or_imp, forall_eq, ne_eq, false_imp_iff, implies_true, and_true] at hF); refine wpList_append_item rfl _ _ 23 rfl 29 i0 (.agg #[.int .i64 0, .int .i64 0, .int .i64 0]) 3 24 Tryd.underlying23 hi0 iz0 iz1 iz2 rfl (by decide) rfl rfl hO rfl one3t (by unfold maxLen; omega) (by omega) ?_; clear hO hF; intro v' w3 hO _; have hF := True.intro)
                rw [pcC_snoc (x := ⟨0, 0, 0⟩)] at hO
                go_ret3
                exact DrewOv.mk hr0 HFB.out HCO.out (ok_snoc HOK.out (x := ⟨0, 0, 0⟩) (by unfold ptOk; simp)) HN.out (by rw [List.length_append, HL.out]; rfl) hn6 (by omega) hO (by omega)
            · go_wp2_with fail
              (go_at_call 65; apply own_at hO; (repeat (first | (with_reducible exact hO) | (with_reducible apply Own.alloc) | (with_reducible apply Own.drew) | ((with_reducible apply Own.set_at); (focus (show _ ≤ _; omega))))); have hG := hF; clear hF; clear hO; intro hO; refine own_pick (k := n) hO hr0 (by omega) (by omega) (by omega) ?_; clear hO; intro x w1 x0 x1 hO; (try simp only [World.size_alloc1, World.size_drew, Nat.reduceAdd] at hO); (try simp only [upd, updI, List.map_cons, List.map_nil, eq_self, if_true, if_false, reduceIte, Nat.add_eq_left, Nat.left_eq_add, Nat.reduceEqDiff, List.set_cons_zero, List.set_cons_succ, hG] at hO); clear hG; have hF := hO; (try simp only [Own, Item.Holds, apartI, CellsAt, Nat.reduceAdd, Nat.zero_add, List.mem_cons, List.not_mem_nil, or_false, forall_eq_or_imp, forall_eq, ne_eq, false_imp_iff, implies_true, and_true] at hF))
              obtain ⟨i, rfl⟩ : ∃ i : Nat, x = i := ⟨x.toNat, by omega⟩
              have hin : i < n := by omega
              go_wp2_with fail
              (go_at_call 91; apply own_at hO; (repeat (first | (with_reducible exact hO) | (with_reducible apply Own.alloc) | (with_reducible apply Own.drew) | ((with_reducible apply Own.set_at); (focus (show _ ≤ _; omega))))); have hG := hF; clear hF; clear hO; intro hO; refine own_pitch hO hr0 (by omega) (by omega) (by omega) ?_; clear hO; intro s a o w1 hs ha ho hO; (try simp only [World.size_alloc1, World.size_drew, Nat.reduceAdd] at hO); (try simp only [upd, updI, List.map_cons, List.map_nil, eq_self, if_true, if_false, reduceIte, Nat.add_eq_left, Nat.left_eq_add, Nat.reduceEqDiff, List.set_cons_zero, List.set_cons_succ, hG] at hO); clear hG; have hF := hO; (try simp only [Own, Item.Holds, apartI, CellsAt, Nat.reduceAdd, Nat.zero_add, List.mem_cons, List.not_mem_nil, or_false, forall_eq_or_imp, forall_eq, ne_eq, false_imp_iff, implies_true, and_true] at hF))
              have HM := hid (show (pcC l).length = n * 3 by rw [pcC_len, HL.out])
              have c0 := hO.row_cell (List.getElem?_eq_getElem (l := pcC l) (i := i * 3) (by have := HM.out; omega))
              have c1 := hO.row_cell (List.getElem?_eq_getElem (l := pcC l) (i := i * 3 + 1) (by have := HM.out; omega))
              have c2 := hO.row_cell (List.getElem?_eq_getElem (l := pcC l) (i := i * 3 + 2) (by have := HM.out; omega))
              have r0 := hO.row_free (i * 3)
              have r1 := hO.row_free (i * 3 + 1)
              have r2 := hO.row_free (i * 3 + 2)
              replace HOK := hid (show ∀ z ∈ l.set i ⟨s, a, o⟩, ptOk z from fun z hz => by
                rcases List.mem_or_eq_of_mem_set hz with hz | rfl
                · exact HOK.out z hz
                · exact ⟨hs, ha, ho⟩)
              replace HL := hid (show (l.set i ⟨s, a, o⟩).length = n by rw [List.length_set, HL.out])
              have HSET := hid (pcC_set14 (l := l) (k := i) (p := ⟨s, a, o⟩) (by have := HM.out; rw [pcC_len] at this; omega))
              go_upto_region 14 with fail
              replace hO := ((hO.row_set (i * 3) (.int .i64 s)).row_set (i * 3 + 1) (.int .i64 a)).row_set (i * 3 + 2) (.int .i64 o)
              rw [HSET.out] at hO
              obtain ⟨l, hl9⟩ : ∃ u, l.set i ⟨s, a, o⟩ = u := ⟨_, rfl⟩
              rw [hl9] at hO HOK HL
              clear hl9 c0 c1 c2 r0 r1 r2 HSET HM hF
              have hF := True.intro
              go_wp2_with fail
              (go_at_call 68; apply own_at hO; (repeat (first | (with_reducible exact hO) | (with_reducible apply Own.alloc) | (with_reducible apply Own.drew) | ((with_reducible apply Own.set_at); (focus (show _ ≤ _; omega))))); have hG := hF; clear hF; clear hO; intro hO; refine own_odd hO hr0 (by omega) (by omega) (by omega) ?_; clear hO; intro x w1 hO; (try simp only [World.size_alloc1, World.size_drew, Nat.reduceAdd] at hO); (try simp only [upd, updI, List.map_cons, List.map_nil, eq_self, if_true, if_false, reduceIte, Nat.add_eq_left, Nat.left_eq_add, Nat.reduceEqDiff, List.set_cons_zero, List.set_cons_succ, hG] at hO); clear hG; have hF := hO; (try simp only [Own, Item.Holds, apartI, CellsAt, Nat.reduceAdd, Nat.zero_add, List.mem_cons, List.not_mem_nil, or_false, forall_eq_or_imp, forall_eq, ne_eq, false_imp_iff, implies_true, and_true] at hF))
              cases x
              · go_wp2_with fail
                go_ret3
                exact DrewOv.mk hr0 HFB.out HCO.out HOK.out HN.out HL.out hn6 (by omega) hO (by omega)
              · go_wp2_with (at_builtin; apply own_list hO; (repeat (first | (with_reducible exact hO) | (with_reducible apply Own.alloc) | (with_reducible apply Own.drew) | ((with_reducible apply Own.set_at); (focus (show _ ≤ _; omega))))); have hG := hF; clear hF; clear hO; intro hO; (try simp only [World.size_alloc1, World.size_drew, Nat.reduceAdd] at hO); (try simp only [upd, updI, List.map_cons, List.map_nil, eq_self, if_true, if_false, reduceIte, Nat.add_eq_left, Nat.left_eq_add, Nat.reduceEqDiff, List.set_cons_zero, List.set_cons_succ, hG] at hO); clear hG; (try simp only [World.size_setCell] at hO); have hF := hO; (try simp only [Own, Item.Holds, apartI, CellsAt, Nat.reduceAdd, Nat.zero_add, List.mem_cons, List.not_mem_nil, or_false, forall_eq_or_imp, forall_eq, ne_eq, false_imp_iff, implies_true, and_true] at hF); refine wpList_append_item rfl _ _ 23 rfl 29 i0 (.agg #[.int .i64 0, .int .i64 0, .int .i64 0]) 3 24 Tryd.underlying23 hi0 iz0 iz1 iz2 rfl (by decide) rfl rfl hO rfl one3t (by unfold maxLen; omega) (by omega) ?_; clear hO hF; intro v' w3 hO _; have hF := True.intro)
                rw [pcC_snoc (x := ⟨0, 0, 0⟩)] at hO
                go_ret3
                exact DrewOv.mk hr0 HFB.out HCO.out (ok_snoc HOK.out (x := ⟨0, 0, 0⟩) (by unfold ptOk; simp)) HN.out (by rw [List.length_append, HL.out]; rfl) hn6 (by omega) hO (by omega)
          · have g1 : 256 ≤ z := by omega
            go_wp2_with fail
            (go_at_call 65; apply own_at hO; (repeat (first | (with_reducible exact hO) | (with_reducible apply Own.alloc) | (with_reducible apply Own.drew) | ((with_reducible apply Own.set_at); (focus (show _ ≤ _; omega))))); have hG := hF; clear hF; clear hO; intro hO; refine own_pick (k := 256) hO hr0 (by omega) (by omega) (by omega) ?_; clear hO; intro x w1 x0 x1 hO; (try simp only [World.size_alloc1, World.size_drew, Nat.reduceAdd] at hO); (try simp only [upd, updI, List.map_cons, List.map_nil, eq_self, if_true, if_false, reduceIte, Nat.add_eq_left, Nat.left_eq_add, Nat.reduceEqDiff, List.set_cons_zero, List.set_cons_succ, hG] at hO); clear hG; have hF := hO; (try simp only [Own, Item.Holds, apartI, CellsAt, Nat.reduceAdd, Nat.zero_add, List.mem_cons, List.not_mem_nil, or_false, forall_eq_or_imp, forall_eq, ne_eq, false_imp_iff, implies_true, and_true] at hF))
            have HLB := hid (show lbB f c 48 72 x = true by unfold lbB; rw [HZ.out]; simp; omega)
            have hlg := (ln_good HLB.out).2.2.2
            clear x0 x1
            obtain ⟨l, hl9⟩ : ∃ l, lnZ f c 48 72 x = l := ⟨_, rfl⟩
            rw [hl9, HN.out] at hlg
            have HNU := hid (fun W => numberS_at HN.out (by omega) HLB.out hl9 hlg.1 W (va := .slice (some ⟨qc, 0, none⟩) n cc))
            replace HL := hid hlg.1
            replace HOK := hid (show ∀ x ∈ l, ptOk x from fun x hx => ptOk_pv (hlg.2 x hx).1)
            clear hlg hl9
            go_wp2_with fail
            (go_at_call 90; apply own_at hO; (repeat (first | (with_reducible exact hO) | (with_reducible apply Own.alloc) | (with_reducible apply Own.drew) | ((with_reducible apply Own.set_at); (focus (show _ ≤ _; omega))))); have hG := hF; clear hF; clear hO; intro hO; refine own_call_rowB hO (fun hB => HNU.out _ (SlAt.of_row hO.2.1.1)) ?_; clear hO; intro v w1 hO; (try simp only [World.size_alloc1, World.size_drew, Nat.reduceAdd] at hO); (try simp only [upd, updI, List.map_cons, List.map_nil, eq_self, if_true, if_false, reduceIte, Nat.add_eq_left, Nat.left_eq_add, Nat.reduceEqDiff, List.set_cons_zero, List.set_cons_succ, hG] at hO); clear hG; have hF := hO; (try simp only [Own, Item.Holds, apartI, CellsAt, Nat.reduceAdd, Nat.zero_add, List.mem_cons, List.not_mem_nil, or_false, forall_eq_or_imp, forall_eq, ne_eq, false_imp_iff, implies_true, and_true] at hF))
            replace hO := Own.sub (.cons_cons _ (.cons _ (.cons_cons _ .slnil))) hO
            obtain ⟨ql, kl, hvl2, hq1, hq2⟩ := hO.row_open (by omega)
            subst hvl2
            have hql : kl ≤ 9223372036854775807 := by unfold maxLen at hq2; omega
            clear hq2 hF HNU
            have hF := hO; (try simp only [Own, Item.Holds, apartI, CellsAt, Nat.reduceAdd, Nat.zero_add, List.mem_cons, List.not_mem_nil, or_false, forall_eq_or_imp, forall_eq, ne_eq, false_imp_iff, implies_true, and_true] at hF)
            go_wp2_with fail
            (go_at_call 68; apply own_at hO; (repeat (first | (with_reducible exact hO) | (with_reducible apply Own.alloc) | (with_reducible apply Own.drew) | ((with_reducible apply Own.set_at); (focus (show _ ≤ _; omega))))); have hG := hF; clear hF; clear hO; intro hO; refine own_odd hO hr0 (by omega) (by omega) (by omega) ?_; clear hO; intro x w1 hO; (try simp only [World.size_alloc1, World.size_drew, Nat.reduceAdd] at hO); (try simp only [upd, updI, List.map_cons, List.map_nil, eq_self, if_true, if_false, reduceIte, Nat.add_eq_left, Nat.left_eq_add, Nat.reduceEqDiff, List.set_cons_zero, List.set_cons_succ, hG] at hO); clear hG; have hF := hO; (try simp only [Own, Item.Holds, apartI, CellsAt, Nat.reduceAdd, Nat.zero_add, List.mem_cons, List.not_mem_nil, or_false, forall_eq_or_imp, forall_eq, ne_eq, false_imp_iff, implies_true, and_true] at hF))
            cases x
            · go_wp2_with fail
              (go_at_call 68; apply own_at hO; (repeat (first | (with_reducible exact hO) | (with_reducible apply Own.alloc) | (with_reducible apply Own.drew) | ((with_reducible apply Own.set_at); (focus (show _ ≤ _; omega))))); have hG := hF; clear hF; clear hO; intro hO; refine own_odd hO hr0 (by omega) (by omega) (by omega) ?_; clear hO; intro x w1 hO; (try simp only [World.size_alloc1, World.size_drew, Nat.reduceAdd] at hO); (try simp only [upd, updI, List.map_cons, List.map_nil, eq_self, if_true, if_false, reduceIte, Nat.add_eq_left, Nat.left_eq_add, Nat.reduceEqDiff, List.set_cons_zero, List.set_cons_succ, hG] at hO); clear hG; have hF := hO; (try simp only [Own, Item.Holds, apartI, CellsAt, Nat.reduceAdd, Nat.zero_add, List.mem_cons, List.not_mem_nil, or_false, forall_eq_or_imp, forall_eq, ne_eq, false_imp_iff, implies_true, and_true] at hF))
              cases x
              · go_wp2_with fail
                go_ret3
                exact DrewOv.mk hr0 HFB.out HCO.out HOK.out HN.out HL.out hn6 (by omega) hO (by omega)
              · go_wp2_with (at_builtin; apply own_list hO; (repeat (first | (with_reducible exact hO) | (with_reducible apply Own.alloc) | (with_reducible apply Own.drew) | ((with_reducible apply Own.set_at); (focus (show _ ≤ _; omega))))); have hG := hF; clear hF; clear hO; intro hO; (try simp only [World.size_alloc1, World.size_drew, Nat.reduceAdd] at hO); (try simp only [upd, updI, List.map_cons, List.map_nil, eq_self, if_true, if_false, reduceIte, Nat.add_eq_left, Nat.left_eq_add, Nat.reduceEqDiff, List.set_cons_zero, List.set_cons_succ, hG] at hO); clear hG; (try simp only [World.size_setCell] at hO); have hF := hO; (try simp only [Own, Item.Holds, apartI, CellsAt, Nat.reduceAdd, Nat.zero_add, List.mem_cons, List.not_mem_nil, or_false, forall_eq_or_imp, forall_eq, ne_eq, false_imp_iff, implies_true, and_true] at hF); refine wpList_append_item rfl _ _ 23 rfl 29 i0 (.agg #[.int .i64 0, .int .i64 0, .int .i64 0]) 3 24 Tryd.underlying23 hi0 iz0 iz1 iz2 rfl (by decide) rfl rfl hO rfl one3t (by unfold maxLen; omega) (by omega) ?_; clear hO hF; intro v' w3 hO _; have hF := True.intro)
                rw [pcC_snoc (x := ⟨0, 0, 0⟩)] at hO
                go_ret3
                exact DrewOv.mk hr0 HFB.out HCO.out (ok_snoc HOK.out (x := ⟨0, 0, 0⟩) (by unfold ptOk; simp)) HN.out (by rw [List.length_append, HL.out]; rfl) hn6 (by omega) hO (by omega)
            · go_wp2_with fail
              (go_at_call 65; apply own_at hO; (repeat (first | (with_reducible exact hO) | (with_reducible apply Own.alloc) | (with_reducible apply Own.drew) | ((with_reducible apply Own.set_at); (focus (show _ ≤ _; omega))))); have hG := hF; clear hF; clear hO; intro hO; refine own_pick (k := n) hO hr0 (by omega) (by omega) (by omega) ?_; clear hO; intro x w1 x0 x1 hO; (try simp only [World.size_alloc1, World.size_drew, Nat.reduceAdd] at hO); (try simp only [upd, updI, List.map_cons, List.map_nil, eq_self, if_true, if_false, reduceIte, Nat.add_eq_left, Nat.left_eq_add, Nat.reduceEqDiff, List.set_cons_zero, List.set_cons_succ, hG] at hO); clear hG; have hF := hO; (try simp only [Own, Item.Holds, apartI, CellsAt, Nat.reduceAdd, Nat.zero_add, List.mem_cons, List.not_mem_nil, or_false, forall_eq_or_imp, forall_eq, ne_eq, false_imp_iff, implies_true, and_true] at hF))
              obtain ⟨i, rfl⟩ : ∃ i : Nat, x = i := ⟨x.toNat, by omega⟩
              have hin : i < n := by omega
              go_wp2_with fail
              (go_at_call 91; apply own_at hO; (repeat (first | (with_reducible exact hO) | (with_reducible apply Own.alloc) | (with_reducible apply Own.drew) | ((with_reducible apply Own.set_at); (focus (show _ ≤ _; omega))))); have hG := hF; clear hF; clear hO; intro hO; refine own_pitch hO hr0 (by omega) (by omega) (by omega) ?_; clear hO; intro s a o w1 hs ha ho hO; (try simp only [World.size_alloc1, World.size_drew, Nat.reduceAdd] at hO); (try simp only [upd, updI, List.map_cons, List.map_nil, eq_self, if_true, if_false, reduceIte, Nat.add_eq_left, Nat.left_eq_add, Nat.reduceEqDiff, List.set_cons_zero, List.set_cons_succ, hG] at hO); clear hG; have hF := hO; (try simp only [Own, Item.Holds, apartI, CellsAt, Nat.reduceAdd, Nat.zero_add, List.mem_cons, List.not_mem_nil, or_false, forall_eq_or_imp, forall_eq, ne_eq, false_imp_iff, implies_true, and_true] at hF))
              have HM := hid (show (pcC l).length = n * 3 by rw [pcC_len, HL.out])
              have c0 := hO.row_cell (List.getElem?_eq_getElem (l := pcC l) (i := i * 3) (by have := HM.out; omega))
              have c1 := hO.row_cell (List.getElem?_eq_getElem (l := pcC l) (i := i * 3 + 1) (by have := HM.out; omega))
              have c2 := hO.row_cell (List.getElem?_eq_getElem (l := pcC l) (i := i * 3 + 2) (by have := HM.out; omega))
              have r0 := hO.row_free (i * 3)
              have r1 := hO.row_free (i * 3 + 1)
              have r2 := hO.row_free (i * 3 + 2)
              replace HOK := hid (show ∀ z ∈ l.set i ⟨s, a, o⟩, ptOk z from fun z hz => by
                rcases List.mem_or_eq_of_mem_set hz with hz | rfl
                · exact HOK.out z hz
                · exact ⟨hs, ha, ho⟩)
              replace HL := hid (show (l.set i ⟨s, a, o⟩).length = n by rw [List.length_set, HL.out])
              have HSET := hid (pcC_set14 (l := l) (k := i) (p := ⟨s, a, o⟩) (by have := HM.out; rw [pcC_len] at this; omega))
              go_upto_region 14 with fail
              replace hO := ((hO.row_set (i * 3) (.int .i64 s)).row_set (i * 3 + 1) (.int .i64 a)).row_set (i * 3 + 2) (.int .i64 o)
              rw [HSET.out] at hO
              obtain ⟨l, hl9⟩ : ∃ u, l.set i ⟨s, a, o⟩ = u := ⟨_, rfl⟩
              rw [hl9] at hO HOK HL
              clear hl9 c0 c1 c2 r0 r1 r2 HSET HM hF
              have hF := True.intro
              go_wp2_with fail
              (go_at_call 68; apply own_at hO; (repeat (first | (with_reducible exact hO) | (with_reducible apply Own.alloc) | (with_reducible apply Own.drew) | ((with_reducible apply Own.set_at); (focus (show _ ≤ _; omega))))); have hG := hF; clear hF; clear hO; intro hO; refine own_odd hO hr0 (by omega) (by omega) (by omega) ?_; clear hO; intro x w1 hO; (try simp only [World.size_alloc1, World.size_drew, Nat.reduceAdd] at hO); (try simp only [upd, updI, List.map_cons, List.map_nil, eq_self, if_true, if_false, reduceIte, Nat.add_eq_left, Nat.left_eq_add, Nat.reduceEqDiff, List.set_cons_zero, List.set_cons_succ, hG] at hO); clear hG; have hF := hO; (try simp only [Own, Item.Holds, apartI, CellsAt, Nat.reduceAdd, Nat.zero_add, List.mem_cons, List.not_mem_nil, or_false, forall_eq_or_imp, forall_eq, ne_eq, false_imp_iff, implies_true, and_true] at hF))
              cases x
              · go_wp2_with fail
                go_ret3
                exact DrewOv.mk hr0 HFB.out HCO.out HOK.out HN.out HL.out hn6 (by omega) hO (by omega)
              · go_wp2_with (at_builtin; apply own_list hO; (repeat (first | (with_reducible exact hO) | (with_reducible apply Own.alloc) | (with_reducible apply Own.drew) | ((with_reducible apply Own.set_at); (focus (show _ ≤ _; omega))))); have hG := hF; clear hF; clear hO; intro hO; (try simp only [World.size_alloc1, World.size_drew, Nat.reduceAdd] at hO); (try simp only [upd, updI, List.map_cons, List.map_nil, eq_self, if_true, if_false, reduceIte, Nat.add_eq_left, Nat.left_eq_add, Nat.reduceEqDiff, List.set_cons_zero, List.set_cons_succ, hG] at hO); clear hG; (try simp only [World.size_setCell] at hO); have hF := hO; (try simp only [Own, Item.Holds, apartI, CellsAt, Nat.reduceAdd, Nat.zero_add, List.mem_cons, List.not_mem_nil, or_false, forall_eq_or_imp, forall_eq, ne_eq, false_imp_iff, implies_true, and_true] at hF); refine wpList_append_item rfl _ _ 23 rfl 29 i0 (.agg #[.int .i64 0, .int .i64 0, .int .i64 0]) 3 24 Tryd.underlying23 hi0 iz0 iz1 iz2 rfl (by decide) rfl rfl hO rfl one3t (by unfold maxLen; omega) (by omega) ?_; clear hO hF; intro v' w3 hO _; have hF := True.intro)
                rw [pcC_snoc (x := ⟨0, 0, 0⟩)] at hO
                go_ret3
                exact DrewOv.mk hr0 HFB.out HCO.out (ok_snoc HOK.out (x := ⟨0, 0, 0⟩) (by unfold ptOk; simp)) HN.out (by rw [List.length_append, HL.out]; rfl) hn6 (by omega) hO (by omega)
        · clear x0 x1
          go_wp2_with fail
          (go_at_call 68; apply own_at hO; (repeat (first | (with_reducible exact hO) | (with_reducible apply Own.alloc) | (with_reducible apply Own.drew) | ((with_reducible apply Own.set_at); (focus (show _ ≤ _; omega))))); have hG := hF; clear hF; clear hO; intro hO; refine own_odd hO hr0 (by omega) (by omega) (by omega) ?_; clear hO; intro x w1 hO; (try simp only [World.size_alloc1, World.size_drew, Nat.reduceAdd] at hO); (try simp only [upd, updI, List.map_cons, List.map_nil, eq_self, if_true, if_false, reduceIte, Nat.add_eq_left, Nat.left_eq_add, Nat.reduceEqDiff, List.set_cons_zero, List.set_cons_succ, hG] at hO); clear hG; have hF := hO; (try simp only [Own, Item.Holds, apartI, CellsAt, Nat.reduceAdd, Nat.zero_add, List.mem_cons, List.not_mem_nil, or_false, forall_eq_or_imp, forall_eq, ne_eq, false_imp_iff, implies_true, and_true] at hF))
          cases x
          · go_wp2_with fail
            go_ret3
            exact DrewOv.mk hr0 HFB.out HCO.out HOK.out HN.out HL.out hn6 (by omega) hO (by omega)
          · go_wp2_with (at_builtin; apply own_list hO; (repeat (first | (with_reducible exact hO) | (with_reducible apply Own.alloc) | (with_reducible apply Own.drew) | ((with_reducible apply Own.set_at); (focus (show _ ≤ _; omega))))); have hG := hF; clear hF; clear hO; intro hO; (try simp only [World.size_alloc1, World.size_drew, Nat.reduceAdd] at hO); (try simp only [upd, updI, List.map_cons, List.map_nil, eq_self, if_true, if_false, reduceIte, Nat.add_eq_left, Nat.left_eq_add, Nat.reduceEqDiff, List.set_cons_zero, List.set_cons_succ, hG] at hO); clear hG; (try simp only [World.size_setCell] at hO); have hF := hO; (try simp only [Own, Item.Holds, apartI, CellsAt, Nat.reduceAdd, Nat.zero_add, List.mem_cons, List.not_mem_nil, or_false, forall_eq_or_imp, forall_eq, ne_eq, false_imp_iff, implies_true, and_true] at hF); refine wpList_append_item rfl _ _ 23 rfl 29 i0 (.agg #[.int .i64 0, .int .i64 0, .int .i64 0]) 3 24 Tryd.underlying23 hi0 iz0 iz1 iz2 rfl (by decide) rfl rfl hO rfl one3t (by unfold maxLen; omega) (by omega) ?_; clear hO hF; intro v' w3 hO _; have hF := True.intro)
            rw [pcC_snoc (x := ⟨0, 0, 0⟩)] at hO
            go_ret3
            exact DrewOv.mk hr0 HFB.out HCO.out (ok_snoc HOK.out (x := ⟨0, 0, 0⟩) (by unfold ptOk; simp)) HN.out (by rw [List.length_append, HL.out]; rfl) hn6 (by omega) hO (by omega)
      · have zp1 : decide ((0 : Int) < z) = false := decide_eq_false zp
        go_wp2_with fail
        (go_at_call 68; apply own_at hO; (repeat (first | (with_reducible exact hO) | (with_reducible apply Own.alloc) | (with_reducible apply Own.drew) | ((with_reducible apply Own.set_at); (focus (show _ ≤ _; omega))))); have hG := hF; clear hF; clear hO; intro hO; refine own_odd hO hr0 (by omega) (by omega) (by omega) ?_; clear hO; intro x w1 hO; (try simp only [World.size_alloc1, World.size_drew, Nat.reduceAdd] at hO); (try simp only [upd, updI, List.map_cons, List.map_nil, eq_self, if_true, if_false, reduceIte, Nat.add_eq_left, Nat.left_eq_add, Nat.reduceEqDiff, List.set_cons_zero, List.set_cons_succ, hG] at hO); clear hG; have hF := hO; (try simp only [Own, Item.Holds, apartI, CellsAt, Nat.reduceAdd, Nat.zero_add, List.mem_cons, List.not_mem_nil, or_false, forall_eq_or_imp, forall_eq, ne_eq, false_imp_iff, implies_true, and_true] at hF))
        cases x
        · go_wp2_with fail
          go_ret3
          exact DrewOv.mk hr0 HFB.out HCO.out HOK.out HN.out HL.out hn6 (by omega) hO (by omega)
        · go_wp2_with (at_builtin; apply own_list hO; (repeat (first | (with_reducible exact hO) | (with_reducible apply Own.alloc) | (with_reducible apply Own.drew) | ((with_reducible apply Own.set_at); (focus (show _ ≤ _; omega))))); have hG := hF; clear hF; clear hO; intro hO; (try simp only [World.size_alloc1, World.size_drew, Nat.reduceAdd] at hO); (try simp only [upd, updI, List.map_cons, List.map_nil, eq_self, if_true, if_false, reduceIte, Nat.add_eq_left, Nat.left_eq_add, Nat.reduceEqDiff, List.set_cons_zero, List.set_cons_succ, hG] at hO); clear hG; (try simp only [World.size_setCell] at hO); have hF := hO; (try simp only [Own, Item.Holds, apartI, CellsAt, Nat.reduceAdd, Nat.zero_add, List.mem_cons, List.not_mem_nil, or_false, forall_eq_or_imp, forall_eq, ne_eq, false_imp_iff, implies_true, and_true] at hF); refine wpList_append_item rfl _ _ 23 rfl 29 i0 (.agg #[.int .i64 0, .int .i64 0, .int .i64 0]) 3 24 Tryd.underlying23 hi0 iz0 iz1 iz2 rfl (by decide) rfl rfl hO rfl one3t (by unfold maxLen; omega) (by omega) ?_; clear hO hF; intro v' w3 hO _; have hF := True.intro)
          rw [pcC_snoc (x := ⟨0, 0, 0⟩)] at hO
          go_ret3
          exact DrewOv.mk hr0 HFB.out HCO.out (ok_snoc HOK.out (x := ⟨0, 0, 0⟩) (by unfold ptOk; simp)) HN.out (by rw [List.length_append, HL.out]; rfl) hn6 (by omega) hO (by omega)
    · have hil : k < n := by omega
      have hi2 : (k : Int) < (n : Int) := by omega
      have hi0' : (0 : Int) ≤ (k : Int) := by omega
      obtain ⟨y, hy⟩ : ∃ x, c[k]? = some x := ⟨_, List.getElem?_eq_getElem (by have := HN.out; omega)⟩
      have HY := hid hy
      have hyb := HCB.out y (List.mem_of_getElem? hy)
      unfold cbOk at hyb
      have HKA := hid (fun s W => kaS14 (f := f) (s := s) rfl W)
      clear he hy
      go_upto_region 6 with fail
      have hX : XR14 r (P + 30 + 4 * (k : Int)) 0 _ := hO.base.2.mono (by omega)
      replace hO := hO.mono (Q := P + 30 + 4 * (k : Int) + 2) hr0 (by omega)
      apply own_code hO
      (repeat (first | (with_reducible exact hO) | (with_reducible apply Own.alloc) | (with_reducible apply Own.drew) | ((with_reducible apply Own.set_at); (focus (show _ ≤ _; omega)))))
      have hG := hF; clear hF; clear hO; intro hO
      (try simp only [World.size_alloc1, World.size_drew, Nat.reduceAdd] at hO); (try simp only [upd, updI, List.map_cons, List.map_nil, eq_self, if_true, if_false, reduceIte, Nat.add_eq_left, Nat.left_eq_add, Nat.reduceEqDiff, List.set_cons_zero, List.set_cons_succ, hG] at hO); clear hG
      refine region_own (X := XR14 r (P + 30 + 4 * (k : Int)) 0) [] (by kernel_rfl) (hO) (hX) (by first | exact XStab.true | exact XStab.rd | exact XStab.rdIf) ?_
      clear hO
      refine Sim.sP (i := 0) (d := some 24) (h := ?_)
      refine Sim.sP (i := 1) (d := some 25) (h := ?_)
      refine Sim.sP (i := 2) (d := some 26) (h := ?_)
      refine Sim.sP (i := 3) (d := some 27) (h := ?_)
      refine Sim.sO (i := 4) (d := some 28) (v := ?_) (hy := ?_) (h := ?_)
      rotate_left
      · first | refine Or.inl ⟨by rfl, fun w hO => ?_⟩ | (refine Or.inr ⟨by rfl, ?_⟩; with_reducible rfl)
        first | done | (have hF := hO; (try simp only [Own, Item.Holds, apartI, CellsAt, Nat.reduceAdd, Nat.zero_add, List.mem_cons, List.not_mem_nil, or_false, forall_eq_or_imp, forall_eq, ne_eq, false_imp_iff, implies_true, and_true] at hF); (((have ⟨d0, d1, d2⟩ := ptAt (SlAt.of_row (hO.holds (.row 29 3 (.slice (some ⟨qc, 0, none⟩) n cc) n (pcC c)) (by simp))) HY.out; rw [Nat.zero_add] at d0 d1 d2); (try have hc1 := own_sel14 (p := pk0) (x := pk1) hO (by first | exact List.mem_cons_self | exact List.mem_cons_of_mem _ List.mem_cons_self) (by omega) (by omega)); (try have hc2 := own_sel14 (p := pk1) (x := pk0) hO (by first | exact List.mem_cons_self | exact List.mem_cons_of_mem _ List.mem_cons_self) (by omega) (by omega)))); refine Out.same ?_; go_simp; all_goals with_reducible rfl)
      refine Sim.sP (i := 5) (d := some 29) (h := ?_)
      refine Sim.sP (i := 8) (d := some 32) (h := ?_)
      refine Sim.one' (i := 6) (oi := { dst := some 30, op := Op.call { callee := Callee.value (Operand.func 65), args := #[Operand.tmp 29, Operand.const (Value.int IntKind.i64 7)], argTypes := #[67, 3] }, type := 3, pos := "l20_draw.go:762", after := #[{ on := 5, ground := Ground.data }], guard := none }) (by kernel_rfl) rfl (by rfl) (fun w0 hO hX K hK => ?_)
      have hF := hO; (try simp only [Own, Item.Holds, apartI, CellsAt, Nat.reduceAdd, Nat.zero_add, List.mem_cons, List.not_mem_nil, or_false, forall_eq_or_imp, forall_eq, ne_eq, false_imp_iff, implies_true, and_true] at hF)
      go_simp
      refine (pick_any r (P + 30 + 4 * (k : Int) + 0) _ _ (show Rd _ r _ from hX.mono (by omega)) (by omega) (by decide) (by decide)).mono ?_
      rintro e wa ⟨pk0, pl0, pu0, rfl, hR4, hB4⟩
      try have bA0 := sel14_bd (p := pk0) (by omega) pk1
      try have bB0 := sel14_bd (p := pk1) (by omega) pk0
      try have sA0 : IntKind.i64.wrap (y.s + sel14 pk0 pk1) = y.s + sel14 pk0 pk1 := IntWalk.i64_in _ (by omega)
      try have sB0 : IntKind.i64.wrap (y.s + sel14 pk1 pk0) = y.s + sel14 pk1 pk0 := IntWalk.i64_in _ (by omega)
      try have tA0 : (y.s + sel14 pk0 pk1).tmod 7 = (y.s + sel14 pk0 pk1) % 7 := Int.tmod_eq_emod_of_nonneg (by omega)
      try have tB0 : (y.s + sel14 pk1 pk0).tmod 7 = (y.s + sel14 pk1 pk0) % 7 := Int.tmod_eq_emod_of_nonneg (by omega)
      try have uA0 : IntKind.i64.wrap ((y.s + sel14 pk0 pk1) % 7) = (y.s + sel14 pk0 pk1) % 7 := IntWalk.i64_in _ (by omega)
      try have uB0 : IntKind.i64.wrap ((y.s + sel14 pk1 pk0) % 7) = (y.s + sel14 pk1 pk0) % 7 := IntWalk.i64_in _ (by omega)
      apply hK _ _ _ (XR14 r (P + 30 + 4 * (k : Int)) 1)
      · exact Own.but hr0 (Stab.bd hr0) ⟨hO.base.1.trans hB4, hR4.mono (by omega)⟩ hB4 hO
      · first | exact trivial | exact hR4.mono (by omega)
      · first | exact XStab.true | exact XStab.rd
      · exact fun _ _ h => h
      clear hR4 hB4
      clear hK K hF hO
      try simp only [Act.put, List.setIfInBounds_toArray, List.set_cons_zero, List.set_cons_succ]
      refine Sim.many (rs := [7, 9]) (by kernel_rfl) (by decide) ?_
      refine AllS.cons (oi := { dst := some 31, op := Op.buildSlice 60 5 #[(0, Operand.const (Value.int IntKind.i64 0)), (1, Operand.const (Value.int IntKind.i64 2)), (2, Operand.const (Value.int IntKind.i64 4)), (3, Operand.const (Value.int IntKind.i64 5)), (4, Operand.tmp 30)], type := 60, pos := "l20_draw.go:762", after := #[{ on := 6, ground := Ground.data }], guard := none }) rfl (by rfl) (fun w0 hO hX K hK => ?_) ?_
      rotate_left
      refine AllS.cons (oi := { dst := some 33, op := Op.call { callee := Callee.value (Operand.func 65), args := #[Operand.tmp 32, Operand.const (Value.int IntKind.i64 5)], argTypes := #[67, 3] }, type := 3, pos := "l20_draw.go:762", after := #[{ on := 8, ground := Ground.data }, { on := 6, ground := Ground.chain }], guard := none }) rfl (by rfl) (fun w0 hO hX K hK => ?_) ?_
      rotate_left
      exact AllS.nil
      rotate_right 2
      have hF := hO; (try simp only [Own, Item.Holds, apartI, CellsAt, Nat.reduceAdd, Nat.zero_add, List.mem_cons, List.not_mem_nil, or_false, forall_eq_or_imp, forall_eq, ne_eq, false_imp_iff, implies_true, and_true] at hF)
      go_simp
      apply hK _ _ _ (XR14 r (P + 30 + 4 * (k : Int)) 1)
      (repeat (first | (with_reducible exact hO) | (with_reducible apply Own.alloc) | (with_reducible apply Own.drew) | ((with_reducible apply Own.set_at); (focus (show _ ≤ _; omega)))))
      · first | exact trivial | exact hX | exact hX.below (below1 _) | exact RdIf.gone | exact hX.keep ((Below.refl _ _).setCell (by first | omega | (dsimp only; omega)) _)
      · exact (by first | exact XStab.true | exact XStab.rd | exact XStab.rdIf)
      · first | exact fun _ _ h => h.2 | exact fun _ _ h => h | exact fun h => absurd h (by decide)
      try simp only [upd, updI, List.map_cons, List.map_nil, eq_self, if_true, if_false, reduceIte, Nat.add_eq_left, Nat.left_eq_add, Nat.reduceEqDiff, List.set_cons_zero, List.set_cons_succ, hF]
      clear hK K hF hO
      try simp only [Act.put, List.setIfInBounds_toArray, List.set_cons_zero, List.set_cons_succ]
      refine Sim.one' (i := 9) (oi := { dst := some 33, op := Op.call { callee := Callee.value (Operand.func 65), args := #[Operand.tmp 32, Operand.const (Value.int IntKind.i64 5)], argTypes := #[67, 3] }, type := 3, pos := "l20_draw.go:762", after := #[{ on := 8, ground := Ground.data }, { on := 6, ground := Ground.chain }], guard := none }) (by kernel_rfl) rfl (by rfl) (fun w0 hO hX K hK => ?_)
      have hF := hO; (try simp only [Own, Item.Holds, apartI, CellsAt, Nat.reduceAdd, Nat.zero_add, List.mem_cons, List.not_mem_nil, or_false, forall_eq_or_imp, forall_eq, ne_eq, false_imp_iff, implies_true, and_true] at hF)
      go_simp
      refine (pick_any r (P + 30 + 4 * (k : Int) + 1) _ _ (show Rd _ r _ from hX.mono (by omega)) (by omega) (by decide) (by decide)).mono ?_
      rintro e wa ⟨pk1, pl1, pu1, rfl, hR4, hB4⟩
      try have bA1 := sel14_bd (p := pk0) (by omega) pk1
      try have bB1 := sel14_bd (p := pk1) (by omega) pk0
      try have sA1 : IntKind.i64.wrap (y.s + sel14 pk0 pk1) = y.s + sel14 pk0 pk1 := IntWalk.i64_in _ (by omega)
      try have sB1 : IntKind.i64.wrap (y.s + sel14 pk1 pk0) = y.s + sel14 pk1 pk0 := IntWalk.i64_in _ (by omega)
      try have tA1 : (y.s + sel14 pk0 pk1).tmod 7 = (y.s + sel14 pk0 pk1) % 7 := Int.tmod_eq_emod_of_nonneg (by omega)
      try have tB1 : (y.s + sel14 pk1 pk0).tmod 7 = (y.s + sel14 pk1 pk0) % 7 := Int.tmod_eq_emod_of_nonneg (by omega)
      try have uA1 : IntKind.i64.wrap ((y.s + sel14 pk0 pk1) % 7) = (y.s + sel14 pk0 pk1) % 7 := IntWalk.i64_in _ (by omega)
      try have uB1 : IntKind.i64.wrap ((y.s + sel14 pk1 pk0) % 7) = (y.s + sel14 pk1 pk0) % 7 := IntWalk.i64_in _ (by omega)
      apply hK _ _ _ (XR14 r (P + 30 + 4 * (k : Int)) 2)
      · exact Own.but hr0 (Stab.bd hr0) ⟨hO.base.1.trans hB4, hR4.mono (by omega)⟩ hB4 hO
      · first | exact trivial | exact hR4.mono (by omega)
      · first | exact XStab.true | exact XStab.rd
      · exact fun _ _ h => h
      clear hR4 hB4
      clear hK K hF hO
      try simp only [Act.put, List.setIfInBounds_toArray, List.set_cons_zero, List.set_cons_succ]
      refine Sim.sP (i := 10) (d := some 34) (h := ?_)
      refine Sim.sO (i := 11) (d := some 35) (v := ?_) (hy := ?_) (h := ?_)
      rotate_left
      · first | refine Or.inl ⟨by rfl, fun w hO => ?_⟩ | (refine Or.inr ⟨by rfl, ?_⟩; with_reducible rfl)
        first | done | (have hF := hO; (try simp only [Own, Item.Holds, apartI, CellsAt, Nat.reduceAdd, Nat.zero_add, List.mem_cons, List.not_mem_nil, or_false, forall_eq_or_imp, forall_eq, ne_eq, false_imp_iff, implies_true, and_true] at hF); (((have ⟨d0, d1, d2⟩ := ptAt (SlAt.of_row (hO.holds (.row 29 3 (.slice (some ⟨qc, 0, none⟩) n cc) n (pcC c)) (by simp))) HY.out; rw [Nat.zero_add] at d0 d1 d2); (try have hc1 := own_sel14 (p := pk0) (x := pk1) hO (by first | exact List.mem_cons_self | exact List.mem_cons_of_mem _ List.mem_cons_self) (by omega) (by omega)); (try have hc2 := own_sel14 (p := pk1) (x := pk0) hO (by first | exact List.mem_cons_self | exact List.mem_cons_of_mem _ List.mem_cons_self) (by omega) (by omega)))); refine Out.same ?_; go_simp; all_goals with_reducible rfl)
      refine Sim.sP (i := 12) (d := some 36) (h := ?_)
      refine Sim.sP (i := 13) (d := some 37) (h := ?_)
      refine Sim.sP (i := 14) (d := some 9) (h := ?_)
      refine Sim.done (by kernel_rfl) (fun w1 hO hX => ?_) _
      (try simp only [World.size_alloc1, World.size_drew, Nat.reduceAdd] at hO); (try simp only [upd, updI, List.map_cons, List.map_nil, eq_self, if_true, if_false, reduceIte, Nat.add_eq_left, Nat.left_eq_add, Nat.reduceEqDiff, List.set_cons_zero, List.set_cons_succ] at hO)
      have hF := hO; (try simp only [Own, Item.Holds, apartI, CellsAt, Nat.reduceAdd, Nat.zero_add, List.mem_cons, List.not_mem_nil, or_false, forall_eq_or_imp, forall_eq, ne_eq, false_imp_iff, implies_true, and_true] at hF)
      rotate_left 1
      have hF := hO; (try simp only [Own, Item.Holds, apartI, CellsAt, Nat.reduceAdd, Nat.zero_add, List.mem_cons, List.not_mem_nil, or_false, forall_eq_or_imp, forall_eq, ne_eq, false_imp_iff, implies_true, and_true] at hF)
      go_simp
      refine (pick_any r (P + 30 + 4 * (k : Int) + 1) _ _ (show Rd _ r _ from hX.mono (by omega)) (by omega) (by decide) (by decide)).mono ?_
      rintro e wa ⟨pk1, pl1, pu1, rfl, hR4, hB4⟩
      try have bA1 := sel14_bd (p := pk0) (by omega) pk1
      try have bB1 := sel14_bd (p := pk1) (by omega) pk0
      try have sA1 : IntKind.i64.wrap (y.s + sel14 pk0 pk1) = y.s + sel14 pk0 pk1 := IntWalk.i64_in _ (by omega)
      try have sB1 : IntKind.i64.wrap (y.s + sel14 pk1 pk0) = y.s + sel14 pk1 pk0 := IntWalk.i64_in _ (by omega)
      try have tA1 : (y.s + sel14 pk0 pk1).tmod 7 = (y.s + sel14 pk0 pk1) % 7 := Int.tmod_eq_emod_of_nonneg (by omega)
      try have tB1 : (y.s + sel14 pk1 pk0).tmod 7 = (y.s + sel14 pk1 pk0) % 7 := Int.tmod_eq_emod_of_nonneg (by omega)
      try have uA1 : IntKind.i64.wrap ((y.s + sel14 pk0 pk1) % 7) = (y.s + sel14 pk0 pk1) % 7 := IntWalk.i64_in _ (by omega)
      try have uB1 : IntKind.i64.wrap ((y.s + sel14 pk1 pk0) % 7) = (y.s + sel14 pk1 pk0) % 7 := IntWalk.i64_in _ (by omega)
      apply hK _ _ _ (XR14 r (P + 30 + 4 * (k : Int)) 2)
      · exact Own.but hr0 (Stab.bd hr0) ⟨hO.base.1.trans hB4, hR4.mono (by omega)⟩ hB4 hO
      · first | exact trivial | exact hR4.mono (by omega)
      · first | exact XStab.true | exact XStab.rd
      · exact fun _ _ h => h
      clear hR4 hB4
      clear hK K hF hO
      try simp only [Act.put, List.setIfInBounds_toArray, List.set_cons_zero, List.set_cons_succ]
      refine Sim.one' (i := 7) (oi := { dst := some 31, op := Op.buildSlice 60 5 #[(0, Operand.const (Value.int IntKind.i64 0)), (1, Operand.const (Value.int IntKind.i64 2)), (2, Operand.const (Value.int IntKind.i64 4)), (3, Operand.const (Value.int IntKind.i64 5)), (4, Operand.tmp 30)], type := 60, pos := "l20_draw.go:762", after := #[{ on := 6, ground := Ground.data }], guard := none }) (by kernel_rfl) rfl (by rfl) (fun w0 hO hX K hK => ?_)
      have hF := hO; (try simp only [Own, Item.Holds, apartI, CellsAt, Nat.reduceAdd, Nat.zero_add, List.mem_cons, List.not_mem_nil, or_false, forall_eq_or_imp, forall_eq, ne_eq, false_imp_iff, implies_true, and_true] at hF)
      go_simp
      apply hK _ _ _ (XR14 r (P + 30 + 4 * (k : Int)) 2)
      (repeat (first | (with_reducible exact hO) | (with_reducible apply Own.alloc) | (with_reducible apply Own.drew) | ((with_reducible apply Own.set_at); (focus (show _ ≤ _; omega)))))
      · first | exact trivial | exact hX | exact hX.below (below1 _) | exact RdIf.gone | exact hX.keep ((Below.refl _ _).setCell (by first | omega | (dsimp only; omega)) _)
      · exact (by first | exact XStab.true | exact XStab.rd | exact XStab.rdIf)
      · first | exact fun _ _ h => h.2 | exact fun _ _ h => h | exact fun h => absurd h (by decide)
      try simp only [upd, updI, List.map_cons, List.map_nil, eq_self, if_true, if_false, reduceIte, Nat.add_eq_left, Nat.left_eq_add, Nat.reduceEqDiff, List.set_cons_zero, List.set_cons_succ, hF]
      clear hK K hF hO
      try simp only [Act.put, List.setIfInBounds_toArray, List.set_cons_zero, List.set_cons_succ]
      refine Sim.sP (i := 10) (d := some 34) (h := ?_)
      refine Sim.sO (i := 11) (d := some 35) (v := ?_) (hy := ?_) (h := ?_)
      rotate_left
      · first | refine Or.inl ⟨by rfl, fun w hO => ?_⟩ | (refine Or.inr ⟨by rfl, ?_⟩; with_reducible rfl)
        first | done | (have hF := hO; (try simp only [Own, Item.Holds, apartI, CellsAt, Nat.reduceAdd, Nat.zero_add, List.mem_cons, List.not_mem_nil, or_false, forall_eq_or_imp, forall_eq, ne_eq, false_imp_iff, implies_true, and_true] at hF); (((have ⟨d0, d1, d2⟩ := ptAt (SlAt.of_row (hO.holds (.row 29 3 (.slice (some ⟨qc, 0, none⟩) n cc) n (pcC c)) (by simp))) HY.out; rw [Nat.zero_add] at d0 d1 d2); (try have hc1 := own_sel14 (p := pk0) (x := pk1) hO (by first | exact List.mem_cons_self | exact List.mem_cons_of_mem _ List.mem_cons_self) (by omega) (by omega)); (try have hc2 := own_sel14 (p := pk1) (x := pk0) hO (by first | exact List.mem_cons_self | exact List.mem_cons_of_mem _ List.mem_cons_self) (by omega) (by omega)))); refine Out.same ?_; go_simp; all_goals with_reducible rfl)
      refine Sim.sP (i := 12) (d := some 36) (h := ?_)
      refine Sim.sP (i := 13) (d := some 37) (h := ?_)
      refine Sim.sP (i := 14) (d := some 9) (h := ?_)
      refine Sim.done (by kernel_rfl) (fun w1 hO hX => ?_) _
      (try simp only [World.size_alloc1, World.size_drew, Nat.reduceAdd] at hO); (try simp only [upd, updI, List.map_cons, List.map_nil, eq_self, if_true, if_false, reduceIte, Nat.add_eq_left, Nat.left_eq_add, Nat.reduceEqDiff, List.set_cons_zero, List.set_cons_succ] at hO)
      have hF := hO; (try simp only [Own, Item.Holds, apartI, CellsAt, Nat.reduceAdd, Nat.zero_add, List.mem_cons, List.not_mem_nil, or_false, forall_eq_or_imp, forall_eq, ne_eq, false_imp_iff, implies_true, and_true] at hF)
      rotate_left 1
      all_goals
        clear hX
        replace hO := hO.drop
        clear hF
        have hF := hO; (try simp only [Own, Item.Holds, apartI, CellsAt, Nat.reduceAdd, Nat.zero_add, List.mem_cons, List.not_mem_nil, or_false, forall_eq_or_imp, forall_eq, ne_eq, false_imp_iff, implies_true, and_true] at hF)
        go_wp2_with fail
        (go_at_call 87; apply own_at hO; (repeat (first | (with_reducible exact hO) | (with_reducible apply Own.alloc) | (with_reducible apply Own.drew) | ((with_reducible apply Own.set_at); (focus (show _ ≤ _; omega))))); have hG := hF; clear hF; clear hO; intro hO; refine own_call hO (fun hB => HKA.out _ _) ?_; clear hO; intro w1 hO; (try simp only [World.size_alloc1, World.size_drew, Nat.reduceAdd] at hO); (try simp only [upd, updI, List.map_cons, List.map_nil, eq_self, if_true, if_false, reduceIte, Nat.add_eq_left, Nat.left_eq_add, Nat.reduceEqDiff, List.set_cons_zero, List.set_cons_succ, hG] at hO); clear hG; have hF := hO; (try simp only [Own, Item.Holds, apartI, CellsAt, Nat.reduceAdd, Nat.zero_add, List.mem_cons, List.not_mem_nil, or_false, forall_eq_or_imp, forall_eq, ne_eq, false_imp_iff, implies_true, and_true] at hF))
        go_wp2_with fail
        (go_at_call 65; apply own_at hO; (repeat (first | (with_reducible exact hO) | (with_reducible apply Own.alloc) | (with_reducible apply Own.drew) | ((with_reducible apply Own.set_at); (focus (show _ ≤ _; omega))))); have hG := hF; clear hF; clear hO; intro hO; refine own_pick (k := 2) hO hr0 (by omega) (by omega) (by omega) ?_; clear hO; intro x w1 x0 x1 hO; (try simp only [World.size_alloc1, World.size_drew, Nat.reduceAdd] at hO); (try simp only [upd, updI, List.map_cons, List.map_nil, eq_self, if_true, if_false, reduceIte, Nat.add_eq_left, Nat.left_eq_add, Nat.reduceEqDiff, List.set_cons_zero, List.set_cons_succ, hG] at hO); clear hG; have hF := hO; (try simp only [Own, Item.Holds, apartI, CellsAt, Nat.reduceAdd, Nat.zero_add, List.mem_cons, List.not_mem_nil, or_false, forall_eq_or_imp, forall_eq, ne_eq, false_imp_iff, implies_true, and_true] at hF))
        have wo : IntKind.i64.wrap (4 + x) = 4 + x := IntWalk.i64_in _ (by omega)
        go_wp2_with (at_builtin; apply own_list hO; (repeat (first | (with_reducible exact hO) | (with_reducible apply Own.alloc) | (with_reducible apply Own.drew) | ((with_reducible apply Own.set_at); (focus (show _ ≤ _; omega))))); have hG := hF; clear hF; clear hO; intro hO; (try simp only [World.size_alloc1, World.size_drew, Nat.reduceAdd] at hO); (try simp only [upd, updI, List.map_cons, List.map_nil, eq_self, if_true, if_false, reduceIte, Nat.add_eq_left, Nat.left_eq_add, Nat.reduceEqDiff, List.set_cons_zero, List.set_cons_succ, hG] at hO); clear hG; (try simp only [World.size_setCell] at hO); have hF := hO; (try simp only [Own, Item.Holds, apartI, CellsAt, Nat.reduceAdd, Nat.zero_add, List.mem_cons, List.not_mem_nil, or_false, forall_eq_or_imp, forall_eq, ne_eq, false_imp_iff, implies_true, and_true] at hF); replace hO := Own.sub (.cons_cons _ (.cons _ (List.Sublist.refl _))) hO; refine wpList_append_item rfl _ _ 23 rfl 29 i0 (.agg #[.int .i64 0, .int .i64 0, .int .i64 0]) 3 24 Tryd.underlying23 hi0 iz0 iz1 iz2 rfl (by decide) rfl rfl hO rfl one3t (by unfold maxLen; omega) (by omega) ?_; clear hO hF; intro v' w3 hO _; have hF := True.intro)
        rw [pcC_snoc (x := ⟨_, _, 4 + x⟩)] at hO
        go_roundw
        case rel => exact ⟨k + 1, _, by omega, by go_num, by rw [List.length_append, hlk]; rfl, hid (ok_snoc hl.out (pt_of14 (by omega) (by omega))), hO.mono hr0 (by omega)⟩
        case measure => simp [intOf]; omega

/-- What drawing a key, a cantus and a line for a law leaves. -/
def DrewLn (w : World) (e : Ending) (w' : World) : Prop :=
  ∃ (f : Int) (u v : Value) (c l : List Pt), (-3 ≤ f ∧ f ≤ 8) ∧ (∀ x ∈ c, ptOk x) ∧ (∀ x ∈ l, ptOk x) ∧ c.length ≤ 6 ∧ l.length ≤ 8 ∧ e = .returned (.tuple #[.int .i64 f, u, v]) ∧ SlAt w' u c.length 3 (pcC c) ∧ SlAt w' v l.length 3 (pcC l) ∧ Below w.heap.size w w'

set_option maxHeartbeats 1000000 in
theorem DrawLineFaults_any (v : Value) (n : Nat) (w : World) (hn : n ≤ maxLen) (h : BytesB w w.heap.size v n) :
    Calls Tryd.prog 16 #[v] w (DrewLn w) := by
  go_enter Tryd.func16, Tryd.ntmps16
  go_wp2_with fail
  refine (open_any v n _ hn h).mono ?_
  rintro e w1 ⟨r, hr, rfl, hR, hb⟩
  go_wp2_with fail
  refine (l20Over_any r 0 _ hR (by omega)).mono ?_
  rintro e w2 ⟨f, u, v', c, l, hf, hc, hl, h6, h8, rfl, hO⟩
  have HO := hid (And.intro (SlAt.of_row hO.2.1.1) (And.intro (SlAt.of_row hO.1.1) (hO.base.1.below hb hr)))
  have HV := hid (And.intro hf (And.intro hc (And.intro hl (And.intro h6 h8))))
  clear hR hb h hn hr hO hf hc hl h6 h8
  go_wp2
  go_ret3
  exact ⟨f, u, v', c, l, HV.out.1, HV.out.2.1, HV.out.2.2.1, HV.out.2.2.2.1, HV.out.2.2.2.2, rfl, HO.out.1, HO.out.2.1, HO.out.2.2⟩

set_option maxHeartbeats 1000000 in
theorem DrawLineGood_any (v : Value) (n : Nat) (w : World) (hn : n ≤ maxLen) (h : BytesB w w.heap.size v n) :
    Calls Tryd.prog 20 #[v] w (DrewLn w) := by
  go_enter Tryd.func20, Tryd.ntmps20
  go_wp2_with fail
  refine (open_any v n _ hn h).mono ?_
  rintro e w1 ⟨r, hr, rfl, hR, hb⟩
  go_wp2_with fail
  refine (l20Over_any r 0 _ hR (by omega)).mono ?_
  rintro e w2 ⟨f, u, v', c, l, hf, hc, hl, h6, h8, rfl, hO⟩
  have HO := hid (And.intro (SlAt.of_row hO.2.1.1) (And.intro (SlAt.of_row hO.1.1) (hO.base.1.below hb hr)))
  have HV := hid (And.intro hf (And.intro hc (And.intro hl (And.intro h6 h8))))
  clear hR hb h hn hr hO hf hc hl h6 h8
  go_wp2
  go_ret3
  exact ⟨f, u, v', c, l, HV.out.1, HV.out.2.1, HV.out.2.2.1, HV.out.2.2.2.1, HV.out.2.2.2.2, rfl, HO.out.1, HO.out.2.1, HO.out.2.2⟩

end Go.Proofs.YtfdglkiehkilnaaDoor
