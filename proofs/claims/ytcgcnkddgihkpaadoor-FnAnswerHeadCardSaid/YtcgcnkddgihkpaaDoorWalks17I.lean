/- Chapter 17 in the program: RealAnswer, TonalAnswer. -/
import Derived.Test.YtcgcnkddgihkpaaDoorCon17
import Derived.Test.YtcgcnkddgihkpaaDoorWalks5E
import Derived.Test.YtcgcnkddgihkpaaDoorWalks3J
import Derived.Test.YtcgcnkddgihkpaaDoorRegionD
namespace Go.Proofs.YtcgcnkddgihkpaaDoor
set_option linter.unusedSimpArgs false
set_option linter.unusedVariables false
set_option maxRecDepth 8000
open Go.RowKit Go.Joins

/-- The intervals of answers lie as the text lays them. -/
def TabU5 (w : World) : Prop := Lib.TabIs Tryd.prog w "loop.example/musicengine/impl.fifthUp" .i64 [4, 7]
def TabU4 (w : World) : Prop := Lib.TabIs Tryd.prog w "loop.example/musicengine/impl.fourthUp" .i64 [3, 5]
theorem gU5 : Tryd.prog.globalNamed "loop.example/musicengine/impl.fifthUp" = some 0 := by kernel_rfl
theorem gU4 : Tryd.prog.globalNamed "loop.example/musicengine/impl.fourthUp" = some 1 := by kernel_rfl
theorem TabU5.below {w w' : World} (h : TabU5 w) (hb : Below w.heap.size w w') : TabU5 w' := tab_stays gU5 h hb (Nat.le_refl _)
theorem TabU4.below {w w' : World} (h : TabU4 w) (hb : Below w.heap.size w w') : TabU4 w' := tab_stays gU4 h hb (Nat.le_refl _)
theorem TabU5.cell {w : World} (h : TabU5 w) : w.cell? ⟨0, 0, none⟩ = some (.int .i64 4) ∧ w.cell? ⟨0, 1, none⟩ = some (.int .i64 7) :=
  ⟨Lib.TabIs.cell h gU5 0 (by decide), Lib.TabIs.cell h gU5 1 (by decide)⟩
theorem TabU4.cell {w : World} (h : TabU4 w) : w.cell? ⟨1, 0, none⟩ = some (.int .i64 3) ∧ w.cell? ⟨1, 1, none⟩ = some (.int .i64 5) :=
  ⟨Lib.TabIs.cell h gU4 0 (by decide), Lib.TabIs.cell h gU4 1 (by decide)⟩

theorem cell_lt17 {w : World} {a : Addr} {v : Value} (h : w.cell? a = some v) : a.block < w.heap.size := by
  unfold World.cell? at h
  cases hb : w.heap[a.block]? with
  | none => rw [hb] at h; cases h
  | some o => exact (Array.getElem?_eq_some_iff.1 hb).1
theorem TabU5.lt {w : World} (h : TabU5 w) : 0 < w.heap.size := cell_lt17 h.cell.1
theorem TabU4.lt {w : World} (h : TabU4 w) : 1 < w.heap.size := cell_lt17 h.cell.1

theorem shI17 {va : Value} {v u : List Nt} {n k : Nat} {st ha : Int} {b : Bool} {w : World} (hT : TabH w) (hl : v.length = n) (hs : SlAt w va n 6 (vcC v)) (hn : n ≤ 1048576) (r1 : r64 st) (r2 : r64 ha) (hu : shL v st ha = u) (hk : u.length = k) (hb : shB v st ha = b) (W : World) (hW : Below w.heap.size w W) :
    Calls Tryd.prog 20 #[va, .agg #[.int .i64 st, .int .i64 ha]] W (RowOutB 39 6 k (vcC u) b W) := by
  subst hl hu hk hb; exact svI_any va v st ha W (hs.below hW) hn (hT.below hW) r1 r2

set_option maxHeartbeats 2000000 in
theorem raI_any (va : Value) (v : List Nt) (w : World) (hT : TabH w) (hF5 : TabU5 w) (hs : SlAt w va v.length 6 (vcC v)) (hn : v.length ≤ 1048576) :
    Calls Tryd.prog 16 #[va] w (RowOutB 39 6 (shL v 4 7).length (vcC (shL v 4 7)) (shB v 4 7) w) := by
  have hO := Own.start w
  have hF := True.intro
  obtain ⟨A, c, rfl⟩ := hs.form
  obtain ⟨u, hu⟩ : ∃ u, shL v 4 7 = u := ⟨_, rfl⟩
  obtain ⟨k, hk⟩ : ∃ k, u.length = k := ⟨_, rfl⟩
  obtain ⟨b, hb⟩ : ∃ b, shB v 4 7 = b := ⟨_, rfl⟩
  have HS := hid (fun W (hW : Below w.heap.size w W) => shI17 hT rfl hs hn (by unfold r64; omega) (by unfold r64; omega) hu hk hb W hW)
  obtain ⟨c0, c1⟩ := hF5.cell
  rw [hu, hb, hk]
  clear hs hn hu hk hb hT hF5
  go_enter Tryd.func16, Tryd.ntmps16
  go_wp2_with (go_at_call 20; apply own_at hO; (repeat (first | (with_reducible exact hO) | (with_reducible apply Own.alloc) | (with_reducible apply Own.drew) | ((with_reducible apply Own.set_at); (focus (show _ ≤ _; omega))))); have hG := hF; clear hF; clear hO; intro hO; refine own_call_rowB hO (fun hB => HS.out _ hB) ?_; clear hO; intro v w1 hO; (try simp only [World.size_alloc1, World.size_drew, Nat.reduceAdd] at hO); (try simp only [upd, updI, List.map_cons, List.map_nil, eq_self, if_true, if_false, reduceIte, Nat.add_eq_left, Nat.left_eq_add, Nat.reduceEqDiff, List.set_cons_zero, List.set_cons_succ, hG] at hO); clear hG; have hF := hO; (try simp only [Own, Item.Holds, apartI, CellsAt, Nat.reduceAdd, Nat.zero_add, List.mem_cons, List.not_mem_nil, or_false, forall_eq_or_imp, forall_eq, ne_eq, false_imp_iff, implies_true, and_true] at hF))
  go_ret2
  exact RowOutB.mk hO
theorem raI_C {w : World} (hT : TabH w) (h5 : TabU5 w) : CRa 16 w := fun va v W hW hs hn => raI_any va v W (hT.below hW) (h5.below hW) hs hn

set_option maxHeartbeats 4000000 in
theorem oaI_any (f : Int) (m : Bool) (x : Nt) (w : World) (hA : TabA w) :
    Calls Tryd.prog 54 #[.int .i64 f, .bool m, .agg #[.bool x.r, .int .i64 x.s, .int .i64 x.a, .int .i64 x.o, .int .i64 x.t, .bool x.y]] w fun e w' => e = .returned (.bool (d4B f m x)) ∧ Below w.heap.size w w' := by
  have hO := Own.start w
  have hF := True.intro
  cases hg : keyB f && pvB x.s x.a x.o
  · have HE := hid (show d4B f m x = false by unfold d4B; rw [hg]; simp)
    have HD := hid (fun W => dgI_no f x.s x.a x.o m W hg)
    clear hg hA
    cases hr : x.r
    all_goals
      go_enter Tryd.func54, Tryd.ntmps54
      go_wp2_with (go_at_call 24; apply own_at hO; (repeat (first | (with_reducible exact hO) | (with_reducible apply Own.alloc) | (with_reducible apply Own.drew) | ((with_reducible apply Own.set_at); (focus (show _ ≤ _; omega))))); have hG := hF; clear hF; clear hO; intro hO; refine own_call hO (fun hB => HD.out _) ?_; clear hO; intro w1 hO; (try simp only [World.size_alloc1, World.size_drew, Nat.reduceAdd] at hO); (try simp only [upd, updI, List.map_cons, List.map_nil, eq_self, if_true, if_false, reduceIte, Nat.add_eq_left, Nat.left_eq_add, Nat.reduceEqDiff, List.set_cons_zero, List.set_cons_succ, hG] at hO); clear hG; have hF := hO; (try simp only [Own, Item.Holds, apartI, CellsAt, Nat.reduceAdd, Nat.zero_add, List.mem_cons, List.not_mem_nil, or_false, forall_eq_or_imp, forall_eq, ne_eq, false_imp_iff, implies_true, and_true] at hF))
      go_ret
      exact ⟨ret_bool HE.out.symm, Own.base (by first | exact hO | (repeat (first | (with_reducible exact hO) | (with_reducible apply Own.alloc) | (with_reducible apply Own.drew) | ((with_reducible apply Own.set_at); (focus (show _ ≤ _; omega))))))⟩
  · have hE : d4B f m x = (!x.r && (decide (dgZ f m x.s = 4) && decide (x.a - altZ f x.s = 0))) := by unfold d4B; rw [hg]; rfl
    have hD := fun W (hW : Below w.heap.size w W) => dgI_yes f x.s x.a x.o m W (hA.below hW) hg
    obtain ⟨dz, hdz⟩ : ∃ z, dgZ f m x.s = z := ⟨_, rfl⟩
    obtain ⟨mz, hmz⟩ : ∃ z, x.a - altZ f x.s = z := ⟨_, rfl⟩
    rw [hdz, hmz] at hD hE
    have HD := hid hD
    have HE := hid hE
    clear hg hA hD hE hdz hmz
    have hways : (¬ dz = 4 ∧ (dz == 4) = false) ∨ (dz = 4 ∧ ¬ mz = 0 ∧ (mz == 0) = false) ∨ (dz = 4 ∧ mz = 0) := by
      by_cases q2 : dz = 4
      · by_cases q3 : mz = 0
        · exact .inr (.inr ⟨q2, q3⟩)
        · exact .inr (.inl ⟨q2, q3, by simpa using q3⟩)
      · exact .inl ⟨q2, by simpa using q2⟩
    cases hr : x.r
    all_goals
      have HR := hid hr
      rcases hways with ⟨q2, q3⟩ | ⟨rfl, q2, q3⟩ | ⟨rfl, rfl⟩
    all_goals
      go_enter Tryd.func54, Tryd.ntmps54
      go_wp2_with (go_at_call 24; apply own_at hO; (repeat (first | (with_reducible exact hO) | (with_reducible apply Own.alloc) | (with_reducible apply Own.drew) | ((with_reducible apply Own.set_at); (focus (show _ ≤ _; omega))))); have hG := hF; clear hF; clear hO; intro hO; refine own_call hO (fun hB => HD.out _ hB) ?_; clear hO; intro w1 hO; (try simp only [World.size_alloc1, World.size_drew, Nat.reduceAdd] at hO); (try simp only [upd, updI, List.map_cons, List.map_nil, eq_self, if_true, if_false, reduceIte, Nat.add_eq_left, Nat.left_eq_add, Nat.reduceEqDiff, List.set_cons_zero, List.set_cons_succ, hG] at hO); clear hG; have hF := hO; (try simp only [Own, Item.Holds, apartI, CellsAt, Nat.reduceAdd, Nat.zero_add, List.mem_cons, List.not_mem_nil, or_false, forall_eq_or_imp, forall_eq, ne_eq, false_imp_iff, implies_true, and_true] at hF))
      go_ret
      exact ⟨ret_bool (by rw [HE.out, HR.out]; simp [*]), Own.base (by first | exact hO | (repeat (first | (with_reducible exact hO) | (with_reducible apply Own.alloc) | (with_reducible apply Own.drew) | ((with_reducible apply Own.set_at); (focus (show _ ≤ _; omega))))))⟩
theorem oaI_is {f : Int} {m b : Bool} {x : Nt} {w : World} (hA : TabA w) (hb : d4B f m x = b) (W : World) (hW : Below w.heap.size w W) :
    Calls Tryd.prog 54 #[.int .i64 f, .bool m, .agg #[.bool x.r, .int .i64 x.s, .int .i64 x.a, .int .i64 x.o, .int .i64 x.t, .bool x.y]] W fun e w' => e = .returned (.bool b) ∧ Below W.heap.size W w' := by
  subst hb; exact oaI_any f m x W (hA.below hW)

theorem by_ways2 {f : Int} {m : Bool} {h : Int} {k : Nat} {x : Nt} {b : Bool} (hb : d4B f m x = b) :
    ∃ st ha : Int, anX f m h k x = shX st ha x ∧ anO f m h k x = shO st ha x ∧ r64 st ∧ r64 ha ∧
      ((¬ (k : Int) < h ∧ st = 4 ∧ ha = 7) ∨ ((k : Int) < h ∧ b = false ∧ st = 4 ∧ ha = 7) ∨ ((k : Int) < h ∧ b = true ∧ st = 3 ∧ ha = 5)) := by
  unfold anX anO byB
  rw [hb]
  by_cases q1 : (k : Int) < h
  · rw [decide_eq_true q1]
    cases b
    · exact ⟨4, 7, rfl, rfl, by unfold r64; omega, by unfold r64; omega, .inr (.inl ⟨q1, rfl, rfl, rfl⟩)⟩
    · exact ⟨3, 5, rfl, rfl, by unfold r64; omega, by unfold r64; omega, .inr (.inr ⟨q1, rfl, rfl, rfl⟩)⟩
  · rw [decide_eq_false q1]
    exact ⟨4, 7, rfl, rfl, by unfold r64; omega, by unfold r64; omega, .inl ⟨q1, rfl, rfl⟩⟩

set_option maxRecDepth 20000 in
set_option maxHeartbeats 8000000 in
theorem taI_in (f : Int) (m : Bool) (va : Value) (v : List Nt) (h : Int) (n : Nat) (w : World) (hT : TabH w) (hA9 : TabA w) (h5 : TabU5 w) (h4 : TabU4 w) (hnl : v.length = n) (hs : SlAt w va n 6 (vcC v)) (hk : keyB f = true) (hv : voB v = true) (h0 : 0 ≤ h) (h1 : h ≤ n) :
    Calls Tryd.prog 22 #[.int .i64 f, .bool m, va, .int .i64 h] w (RowOutB 39 6 (taL f m v h).length (vcC (taL f m v h)) (taB f m v h) w) := by
  have hO := Own.start w
  have hF := True.intro
  obtain ⟨i0, hi0, hz0, hz1, hz2⟩ := info_parts infoN
  obtain ⟨A, c, rfl, nb, hA⟩ := hs.open
  have HA := hid hs
  have HN := hid hnl
  have hn60 : n ≤ 60 := by have := (voB_iff.1 hv).2; omega
  have HV := hid (voI_is hnl hs (by omega) hv)
  have HK := hid (fun W => kvI_is W hk)
  have HG := hid (show (keyB f && voB v && decide (0 ≤ h) && decide (h ≤ (n : Int))) = true by rw [hk, hv, decide_eq_true h0, decide_eq_true h1]; rfl)
  have HT := hid (And.intro hT (And.intro hA9 (And.intro h5 h4)))
  have q0 : ¬ h < 0 := by omega
  have q1 : ¬ (n : Int) < h := by omega
  clear hs hnl hv hk hT hA9 h5 h4 h0 h1
  go_enter Tryd.func22, Tryd.ntmps22
  go_wp2_with (first | (go_at_call 53; apply own_at hO; (repeat (first | (with_reducible exact hO) | (with_reducible apply Own.alloc) | (with_reducible apply Own.drew) | ((with_reducible apply Own.set_at); (focus (show _ ≤ _; omega))))); have hG := hF; clear hF; clear hO; intro hO; refine own_call hO (fun hB => HK.out _) ?_; clear hO; intro w1 hO; (try simp only [World.size_alloc1, World.size_drew, Nat.reduceAdd] at hO); (try simp only [upd, updI, List.map_cons, List.map_nil, eq_self, if_true, if_false, reduceIte, Nat.add_eq_left, Nat.left_eq_add, Nat.reduceEqDiff, List.set_cons_zero, List.set_cons_succ, hG] at hO); clear hG; have hF := hO; (try simp only [Own, Item.Holds, apartI, CellsAt, Nat.reduceAdd, Nat.zero_add, List.mem_cons, List.not_mem_nil, or_false, forall_eq_or_imp, forall_eq, ne_eq, false_imp_iff, implies_true, and_true] at hF)) | (go_at_call 25; apply own_at hO; (repeat (first | (with_reducible exact hO) | (with_reducible apply Own.alloc) | (with_reducible apply Own.drew) | ((with_reducible apply Own.set_at); (focus (show _ ≤ _; omega))))); have hG := hF; clear hF; clear hO; intro hO; refine own_call hO (fun hB => HV.out _ hB) ?_; clear hO; intro w1 hO; (try simp only [World.size_alloc1, World.size_drew, Nat.reduceAdd] at hO); (try simp only [upd, updI, List.map_cons, List.map_nil, eq_self, if_true, if_false, reduceIte, Nat.add_eq_left, Nat.left_eq_add, Nat.reduceEqDiff, List.set_cons_zero, List.set_cons_succ, hG] at hO); clear hG; have hF := hO; (try simp only [Own, Item.Holds, apartI, CellsAt, Nat.reduceAdd, Nat.zero_add, List.mem_cons, List.not_mem_nil, or_false, forall_eq_or_imp, forall_eq, ne_eq, false_imp_iff, implies_true, and_true] at hF)) | (at_make; go_loud (refine wpList_make_item rfl _ _ 23 rfl 39 i0 (.agg #[.bool false, .int .i64 0, .int .i64 0, .int .i64 0, .int .i64 0, .bool false]) 6 48 Tryd.underlying23 hi0 hz0 hz1 hz2 _ _ _ _ n rfl rfl rfl rfl (by omega) (by unfold maxLen; omega) hO ?_); clear hO hF; intro q w2 hO; have hF := True.intro))
  rw [madeN n, show List.replicate n nt0 = mixN (anL f m h v) 0 by rw [mixN_zero, an_len, HN.out]] at hO
  clear q0 q1
  go_loopw [39] (fun t wr => ∃ j : Nat, j ≤ n ∧ t = .int .i64 j ∧ Hid (∀ (k : Nat) (x : Nt), k < j → v[k]? = some x → anO f m h k x = true) ∧ Own w.heap.size (Below w.heap.size w) wr [.row 39 6 (.slice (some ⟨q, 0, none⟩) n n) n (vcC (mixN (anL f m h v) j))]) (fun t _ => n - (intOf t).toNat)
  case atStart => exact ⟨0, by omega, rfl, fun k x h => by omega, hO⟩
  case round =>
    clear hO hF
    obtain ⟨j, hj, rfl, hok, hO⟩ := hrel
    have hF := hO; (try simp only [Own, Item.Holds, apartI, CellsAt, Nat.reduceAdd, Nat.zero_add, List.mem_cons, List.not_mem_nil, or_false, forall_eq_or_imp, forall_eq, ne_eq, false_imp_iff, implies_true, and_true] at hF)
    by_cases he : j = n
    · subst he
      obtain ⟨b, hb⟩ : ∃ b, taB f m v h = b := ⟨_, rfl⟩
      have hb2 : voB (anL f m h v) = b := by rw [← ta_all HN.out HG.out hok.out]; exact hb
      have hl : (anL f m h v).length = j := by rw [an_len]; exact HN.out
      have hm : mixN (anL f m h v) j = anL f m h v := by
        have := mixN_full (anL f m h v)
        rwa [hl] at this
      rw [hm] at hO
      have HW := hid (fun va W (hW : SlAt W va j 6 (vcC (anL f m h v))) => voI_is hl hW (by omega) hb2 W (Below.refl _ _))
      have HB := hid hb
      have HL := hid hl
      clear hok hb hb2 hl hm
      cases b
      · go_wp2_with (go_at_call 25; apply own_at hO; (repeat (first | (with_reducible exact hO) | (with_reducible apply Own.alloc) | (with_reducible apply Own.drew) | ((with_reducible apply Own.set_at); (focus (show _ ≤ _; omega))))); have hG := hF; clear hF; clear hO; intro hO; refine own_callO hO (fun hW => HW.out _ _ (SlAt.of_row hW.1.1)) ?_; clear hO; intro w1 hO; (try simp only [World.size_alloc1, World.size_drew, Nat.reduceAdd] at hO); (try simp only [upd, updI, List.map_cons, List.map_nil, eq_self, if_true, if_false, reduceIte, Nat.add_eq_left, Nat.left_eq_add, Nat.reduceEqDiff, List.set_cons_zero, List.set_cons_succ, hG] at hO); clear hG; have hF := hO; (try simp only [Own, Item.Holds, apartI, CellsAt, Nat.reduceAdd, Nat.zero_add, List.mem_cons, List.not_mem_nil, or_false, forall_eq_or_imp, forall_eq, ne_eq, false_imp_iff, implies_true, and_true] at hF))
        go_ret2
        rw [HB.out, taL_no HB.out]
        exact RowOutB.mk (Own.nilRow 39 6 hO)
      · go_wp2_with (go_at_call 25; apply own_at hO; (repeat (first | (with_reducible exact hO) | (with_reducible apply Own.alloc) | (with_reducible apply Own.drew) | ((with_reducible apply Own.set_at); (focus (show _ ≤ _; omega))))); have hG := hF; clear hF; clear hO; intro hO; refine own_callO hO (fun hW => HW.out _ _ (SlAt.of_row hW.1.1)) ?_; clear hO; intro w1 hO; (try simp only [World.size_alloc1, World.size_drew, Nat.reduceAdd] at hO); (try simp only [upd, updI, List.map_cons, List.map_nil, eq_self, if_true, if_false, reduceIte, Nat.add_eq_left, Nat.left_eq_add, Nat.reduceEqDiff, List.set_cons_zero, List.set_cons_succ, hG] at hO); clear hG; have hF := hO; (try simp only [Own, Item.Holds, apartI, CellsAt, Nat.reduceAdd, Nat.zero_add, List.mem_cons, List.not_mem_nil, or_false, forall_eq_or_imp, forall_eq, ne_eq, false_imp_iff, implies_true, and_true] at hF))
        go_ret2
        rw [HB.out, taL_yes HB.out, HL.out]
        exact RowOutB.mk hO
    · have hlt : j < n := by omega
      have hlt2 : (j : Int) < n := by omega
      obtain ⟨b, off, rfl, hc1, hc2, hb⟩ := hA (by omega)
      obtain ⟨x, hx⟩ : ∃ x, v[j]? = some x := ⟨_, List.getElem?_eq_getElem (by have := HN.out; omega)⟩
      obtain ⟨z, hz⟩ : ∃ z, (mixN (anL f m h v) j)[j]? = some z := ⟨_, List.getElem?_eq_getElem (by rw [mixN_len _ _ (by rw [an_len]; have := HN.out; omega), an_len]; have := HN.out; omega)⟩
      obtain ⟨d0, d1, d2, d3, d4, d5⟩ := noteAt (HA.out.below hO.base) hx
      obtain ⟨b4, hb4⟩ : ∃ b, d4B f m x = b := ⟨_, rfl⟩
      obtain ⟨st, ha, hy, hoe, r1, r2, hways⟩ := by_ways2 (h := h) (k := j) hb4
      have HO4 := hid (fun W (hW : Below w.heap.size w W) => oaI_is HT.out.2.1 hb4 W hW)
      have HE := hid (vcC_at hz)
      obtain ⟨y, hy2⟩ : ∃ y, shX st ha x = y := ⟨_, rfl⟩
      have hp := mixN_put (an_at (f := f) (m := m) (h := h) hx)
      rw [hy, hy2] at hp
      have HP := hid hp
      have hq : q < wr.heap.size := ((Item.Holds.lt (x := .row _ _ _ _ _) hO.1.1) q rfl).2
      have hq0 : w.heap.size ≤ q := ((Item.Holds.lt (x := .row _ _ _ _ _) hO.1.1) q rfl).1
      have hbw : b < wr.heap.size := Nat.lt_of_lt_of_le hb hO.base.size
      have HX := hid hx
      have HJ := hid (And.intro hj hlt)
      have HOK := hid (show shO st ha x = true → ∀ (k : Nat) (y : Nt), k < j + 1 → v[k]? = some y → anO f m h k y = true from fun hs k y hk hvy => by
        rcases (show k < j ∨ k = j by omega) with h | rfl
        · exact hok.out k y h hvy
        · rw [HX.out] at hvy; cases hvy; rw [hoe]; exact hs)
      have HBad := hid (show shO st ha x = false → taB f m v h = false from fun h => ta_bad HX.out (hoe.trans h))
      obtain ⟨c0, c1⟩ := (HT.out.2.2.1.below hO.base).cell
      have hg5 := (HT.out.2.2.1.below hO.base).lt
      clear he hx hz hA hj hlt hp hb4 hy hoe
      cases ho : shO st ha x
      · have HO := hid (show ∀ W, Below w.heap.size w W → _ from fun W hW => mvN_no x st ha W (HT.out.1.below hW) r1 r2 ho)
        have HE := hid (HBad.out ho)
        clear ho hy2 HBad HOK
        rcases hways with ⟨q1, rfl, rfl⟩ | ⟨q1, rfl, rfl, rfl⟩ | ⟨q1, rfl, rfl, rfl⟩
        all_goals
          go_wp2_with (first | ((go_at_call 54; apply own_at hO; (repeat (first | (with_reducible exact hO) | (with_reducible apply Own.alloc) | (with_reducible apply Own.drew) | ((with_reducible apply Own.set_at); (focus (show _ ≤ _; omega))))); have hG := hF; clear hF; clear hO; intro hO; refine own_call hO (fun hB => HO4.out _ hB) ?_; clear hO; intro w1 hO; (try simp only [World.size_alloc1, World.size_drew, Nat.reduceAdd] at hO); (try simp only [upd, updI, List.map_cons, List.map_nil, eq_self, if_true, if_false, reduceIte, Nat.add_eq_left, Nat.left_eq_add, Nat.reduceEqDiff, List.set_cons_zero, List.set_cons_succ, hG] at hO); clear hG; have hF := hO; (try simp only [Own, Item.Holds, apartI, CellsAt, Nat.reduceAdd, Nat.zero_add, List.mem_cons, List.not_mem_nil, or_false, forall_eq_or_imp, forall_eq, ne_eq, false_imp_iff, implies_true, and_true] at hF)); obtain ⟨g0, g1⟩ := (HT.out.2.2.2.below hO.base).cell; have hg4 := (HT.out.2.2.2.below hO.base).lt) | (go_at_call 49; apply own_at hO; (repeat (first | (with_reducible exact hO) | (with_reducible apply Own.alloc) | (with_reducible apply Own.drew) | ((with_reducible apply Own.set_at); (focus (show _ ≤ _; omega))))); have hG := hF; clear hF; clear hO; intro hO; refine own_call hO (fun hB => HO.out _ hB) ?_; clear hO; intro w1 hO; (try simp only [World.size_alloc1, World.size_drew, Nat.reduceAdd] at hO); (try simp only [upd, updI, List.map_cons, List.map_nil, eq_self, if_true, if_false, reduceIte, Nat.add_eq_left, Nat.left_eq_add, Nat.reduceEqDiff, List.set_cons_zero, List.set_cons_succ, hG] at hO); clear hG; have hF := hO; (try simp only [Own, Item.Holds, apartI, CellsAt, Nat.reduceAdd, Nat.zero_add, List.mem_cons, List.not_mem_nil, or_false, forall_eq_or_imp, forall_eq, ne_eq, false_imp_iff, implies_true, and_true] at hF)))
          go_ret2
          rw [HE.out, taL_no HE.out]
          exact RowOutB.mk (Own.nilRow 39 6 (Own.alloc hO))
      · have HO := hid (show ∀ W, Below w.heap.size w W → _ from fun W hW => mvN_yes x y st ha W (HT.out.1.below hW) ho hy2)
        have HS2 := hid (HOK.out ho)
        clear ho hy2 HBad HOK
        rcases hways with ⟨q1, rfl, rfl⟩ | ⟨q1, rfl, rfl, rfl⟩ | ⟨q1, rfl, rfl, rfl⟩
        all_goals
          go_wp2_with (first | ((go_at_call 54; apply own_at hO; (repeat (first | (with_reducible exact hO) | (with_reducible apply Own.alloc) | (with_reducible apply Own.drew) | ((with_reducible apply Own.set_at); (focus (show _ ≤ _; omega))))); have hG := hF; clear hF; clear hO; intro hO; refine own_call hO (fun hB => HO4.out _ hB) ?_; clear hO; intro w1 hO; (try simp only [World.size_alloc1, World.size_drew, Nat.reduceAdd] at hO); (try simp only [upd, updI, List.map_cons, List.map_nil, eq_self, if_true, if_false, reduceIte, Nat.add_eq_left, Nat.left_eq_add, Nat.reduceEqDiff, List.set_cons_zero, List.set_cons_succ, hG] at hO); clear hG; have hF := hO; (try simp only [Own, Item.Holds, apartI, CellsAt, Nat.reduceAdd, Nat.zero_add, List.mem_cons, List.not_mem_nil, or_false, forall_eq_or_imp, forall_eq, ne_eq, false_imp_iff, implies_true, and_true] at hF)); obtain ⟨g0, g1⟩ := (HT.out.2.2.2.below hO.base).cell; have hg4 := (HT.out.2.2.2.below hO.base).lt) | ((go_at_call 49; apply own_at hO; (repeat (first | (with_reducible exact hO) | (with_reducible apply Own.alloc) | (with_reducible apply Own.drew) | ((with_reducible apply Own.set_at); (focus (show _ ≤ _; omega))))); have hG := hF; clear hF; clear hO; intro hO; refine own_call hO (fun hB => HO.out _ hB) ?_; clear hO; intro w1 hO; (try simp only [World.size_alloc1, World.size_drew, Nat.reduceAdd] at hO); (try simp only [upd, updI, List.map_cons, List.map_nil, eq_self, if_true, if_false, reduceIte, Nat.add_eq_left, Nat.left_eq_add, Nat.reduceEqDiff, List.set_cons_zero, List.set_cons_succ, hG] at hO); clear hG; have hF := hO; (try simp only [Own, Item.Holds, apartI, CellsAt, Nat.reduceAdd, Nat.zero_add, List.mem_cons, List.not_mem_nil, or_false, forall_eq_or_imp, forall_eq, ne_eq, false_imp_iff, implies_true, and_true] at hF)); have c0 := hO.2.2.row_cell HE.out.1; have c1 := hO.2.2.row_cell HE.out.2.1; have c2 := hO.2.2.row_cell HE.out.2.2.1; have c3 := hO.2.2.row_cell HE.out.2.2.2.1; have c4 := hO.2.2.row_cell HE.out.2.2.2.2.1; have c5 := hO.2.2.row_cell HE.out.2.2.2.2.2; have r0 := hO.2.2.row_free (j * 6); have r1 := hO.2.2.row_free (j * 6 + 1); have r2 := hO.2.2.row_free (j * 6 + 2); have r3 := hO.2.2.row_free (j * 6 + 3); have r4 := hO.2.2.row_free (j * 6 + 4); have r5 := hO.2.2.row_free (j * 6 + 5); have hqw : q < w1.heap.size := ((Item.Holds.lt (x := .row _ _ _ _ _) hO.2.2.1.1) q rfl).2))
          go_roundw
          case rel =>
            refine ⟨j + 1, by have := HJ.out; omega, by go_num, HS2.out, ?_⟩
            rw [← HP.out]
            exact Own.drop (Own.alloc ((((((hO.2.2.row_set (j * 6) _).row_set (j * 6 + 1) _).row_set (j * 6 + 2) _).row_set (j * 6 + 3) _).row_set (j * 6 + 4) _).row_set (j * 6 + 5) _))
          case measure => have := HJ.out; simp [intOf]; omega

set_option maxRecDepth 20000 in
set_option maxHeartbeats 4000000 in
theorem taI_out (f : Int) (m : Bool) (va : Value) (v : List Nt) (h : Int) (n : Nat) (w : World) (hnl : v.length = n) (hn : n ≤ 1048576) (hs : SlAt w va n 6 (vcC v)) (hv : (keyB f && voB v && inB h 0 n) = false) :
    Calls Tryd.prog 22 #[.int .i64 f, .bool m, va, .int .i64 h] w (RowOutB 39 6 0 [] false w) := by
  have hO := Own.start w
  have hF := True.intro
  obtain ⟨A, c, rfl, nb, _⟩ := hs.open
  obtain ⟨b, hvo⟩ : ∃ b, voB v = b := ⟨_, rfl⟩
  obtain ⟨b1, h1⟩ : ∃ b, keyB f = b := ⟨_, rfl⟩
  have HV := hid (voI_is hnl hs hn hvo)
  have HK := hid (fun W => kvI_is W h1)
  rw [h1, hvo] at hv
  clear hs hnl hvo h1 hn
  cases b1
  · clear hv
    go_enter Tryd.func22, Tryd.ntmps22
    go_wp2_with (first | (go_at_call 53; apply own_at hO; (repeat (first | (with_reducible exact hO) | (with_reducible apply Own.alloc) | (with_reducible apply Own.drew) | ((with_reducible apply Own.set_at); (focus (show _ ≤ _; omega))))); have hG := hF; clear hF; clear hO; intro hO; refine own_call hO (fun hB => HK.out _) ?_; clear hO; intro w1 hO; (try simp only [World.size_alloc1, World.size_drew, Nat.reduceAdd] at hO); (try simp only [upd, updI, List.map_cons, List.map_nil, eq_self, if_true, if_false, reduceIte, Nat.add_eq_left, Nat.left_eq_add, Nat.reduceEqDiff, List.set_cons_zero, List.set_cons_succ, hG] at hO); clear hG; have hF := hO; (try simp only [Own, Item.Holds, apartI, CellsAt, Nat.reduceAdd, Nat.zero_add, List.mem_cons, List.not_mem_nil, or_false, forall_eq_or_imp, forall_eq, ne_eq, false_imp_iff, implies_true, and_true] at hF)) | (go_at_call 25; apply own_at hO; (repeat (first | (with_reducible exact hO) | (with_reducible apply Own.alloc) | (with_reducible apply Own.drew) | ((with_reducible apply Own.set_at); (focus (show _ ≤ _; omega))))); have hG := hF; clear hF; clear hO; intro hO; refine own_call hO (fun hB => HV.out _ hB) ?_; clear hO; intro w1 hO; (try simp only [World.size_alloc1, World.size_drew, Nat.reduceAdd] at hO); (try simp only [upd, updI, List.map_cons, List.map_nil, eq_self, if_true, if_false, reduceIte, Nat.add_eq_left, Nat.left_eq_add, Nat.reduceEqDiff, List.set_cons_zero, List.set_cons_succ, hG] at hO); clear hG; have hF := hO; (try simp only [Own, Item.Holds, apartI, CellsAt, Nat.reduceAdd, Nat.zero_add, List.mem_cons, List.not_mem_nil, or_false, forall_eq_or_imp, forall_eq, ne_eq, false_imp_iff, implies_true, and_true] at hF)))
    go_ret2
    exact RowOutB.mk (Own.nilRow 39 6 hO)
  · cases b
    · clear hv
      go_enter Tryd.func22, Tryd.ntmps22
      go_wp2_with (first | (go_at_call 53; apply own_at hO; (repeat (first | (with_reducible exact hO) | (with_reducible apply Own.alloc) | (with_reducible apply Own.drew) | ((with_reducible apply Own.set_at); (focus (show _ ≤ _; omega))))); have hG := hF; clear hF; clear hO; intro hO; refine own_call hO (fun hB => HK.out _) ?_; clear hO; intro w1 hO; (try simp only [World.size_alloc1, World.size_drew, Nat.reduceAdd] at hO); (try simp only [upd, updI, List.map_cons, List.map_nil, eq_self, if_true, if_false, reduceIte, Nat.add_eq_left, Nat.left_eq_add, Nat.reduceEqDiff, List.set_cons_zero, List.set_cons_succ, hG] at hO); clear hG; have hF := hO; (try simp only [Own, Item.Holds, apartI, CellsAt, Nat.reduceAdd, Nat.zero_add, List.mem_cons, List.not_mem_nil, or_false, forall_eq_or_imp, forall_eq, ne_eq, false_imp_iff, implies_true, and_true] at hF)) | (go_at_call 25; apply own_at hO; (repeat (first | (with_reducible exact hO) | (with_reducible apply Own.alloc) | (with_reducible apply Own.drew) | ((with_reducible apply Own.set_at); (focus (show _ ≤ _; omega))))); have hG := hF; clear hF; clear hO; intro hO; refine own_call hO (fun hB => HV.out _ hB) ?_; clear hO; intro w1 hO; (try simp only [World.size_alloc1, World.size_drew, Nat.reduceAdd] at hO); (try simp only [upd, updI, List.map_cons, List.map_nil, eq_self, if_true, if_false, reduceIte, Nat.add_eq_left, Nat.left_eq_add, Nat.reduceEqDiff, List.set_cons_zero, List.set_cons_succ, hG] at hO); clear hG; have hF := hO; (try simp only [Own, Item.Holds, apartI, CellsAt, Nat.reduceAdd, Nat.zero_add, List.mem_cons, List.not_mem_nil, or_false, forall_eq_or_imp, forall_eq, ne_eq, false_imp_iff, implies_true, and_true] at hF)))
      go_ret2
      exact RowOutB.mk (Own.nilRow 39 6 hO)
    · have hw : h < 0 ∨ (¬ h < 0 ∧ (n : Int) < h) := by
        by_cases q : h < 0
        · exact .inl q
        · refine .inr ⟨q, ?_⟩
          have h3 : ¬ inB h 0 n = true := by simpa using hv
          rw [inB_iff] at h3
          omega
      clear hv
      rcases hw with q | ⟨q, q2⟩
      all_goals
        go_enter Tryd.func22, Tryd.ntmps22
        go_wp2_with (first | (go_at_call 53; apply own_at hO; (repeat (first | (with_reducible exact hO) | (with_reducible apply Own.alloc) | (with_reducible apply Own.drew) | ((with_reducible apply Own.set_at); (focus (show _ ≤ _; omega))))); have hG := hF; clear hF; clear hO; intro hO; refine own_call hO (fun hB => HK.out _) ?_; clear hO; intro w1 hO; (try simp only [World.size_alloc1, World.size_drew, Nat.reduceAdd] at hO); (try simp only [upd, updI, List.map_cons, List.map_nil, eq_self, if_true, if_false, reduceIte, Nat.add_eq_left, Nat.left_eq_add, Nat.reduceEqDiff, List.set_cons_zero, List.set_cons_succ, hG] at hO); clear hG; have hF := hO; (try simp only [Own, Item.Holds, apartI, CellsAt, Nat.reduceAdd, Nat.zero_add, List.mem_cons, List.not_mem_nil, or_false, forall_eq_or_imp, forall_eq, ne_eq, false_imp_iff, implies_true, and_true] at hF)) | (go_at_call 25; apply own_at hO; (repeat (first | (with_reducible exact hO) | (with_reducible apply Own.alloc) | (with_reducible apply Own.drew) | ((with_reducible apply Own.set_at); (focus (show _ ≤ _; omega))))); have hG := hF; clear hF; clear hO; intro hO; refine own_call hO (fun hB => HV.out _ hB) ?_; clear hO; intro w1 hO; (try simp only [World.size_alloc1, World.size_drew, Nat.reduceAdd] at hO); (try simp only [upd, updI, List.map_cons, List.map_nil, eq_self, if_true, if_false, reduceIte, Nat.add_eq_left, Nat.left_eq_add, Nat.reduceEqDiff, List.set_cons_zero, List.set_cons_succ, hG] at hO); clear hG; have hF := hO; (try simp only [Own, Item.Holds, apartI, CellsAt, Nat.reduceAdd, Nat.zero_add, List.mem_cons, List.not_mem_nil, or_false, forall_eq_or_imp, forall_eq, ne_eq, false_imp_iff, implies_true, and_true] at hF)))
        go_ret2
        exact RowOutB.mk (Own.nilRow 39 6 hO)

theorem ta_guardI {f : Int} {m : Bool} {v : List Nt} {h : Int} (hv : (keyB f && voB v && inB h 0 v.length) = false) : taB f m v h = false := by
  rw [← Bool.not_eq_true]
  intro hb
  obtain ⟨g1, g2, g3, g4, _⟩ := ta_iff.1 hb
  rw [g1, g2, inB_iff.2 ⟨g3, g4⟩] at hv
  cases hv
theorem taI_any (f : Int) (m : Bool) (va : Value) (v : List Nt) (h : Int) (w : World) (hT : TabH w) (hA : TabA w) (h5 : TabU5 w) (h4 : TabU4 w) (hs : SlAt w va v.length 6 (vcC v)) (hn : v.length ≤ 1048576) :
    Calls Tryd.prog 22 #[.int .i64 f, .bool m, va, .int .i64 h] w (RowOutB 39 6 (taL f m v h).length (vcC (taL f m v h)) (taB f m v h) w) := by
  cases hg : keyB f && voB v && inB h 0 v.length
  · have hb := ta_guardI (m := m) hg
    rw [hb, taL_no hb]
    exact taI_out f m va v h _ w rfl hn hs hg
  · simp only [Bool.and_eq_true] at hg
    obtain ⟨⟨g1, g2⟩, g3⟩ := hg
    obtain ⟨g4, g5⟩ := inB_iff.1 g3
    exact taI_in f m va v h _ w hT hA h5 h4 rfl hs g1 g2 g4 g5
theorem taI_C {w : World} (hT : TabH w) (hA : TabA w) (h5 : TabU5 w) (h4 : TabU4 w) : CTa 22 w := fun f m va v h W hW hs hn _ _ => taI_any f m va v h W (hT.below hW) (hA.below hW) (h5.below hW) (h4.below hW) hs hn
end Go.Proofs.YtcgcnkddgihkpaaDoor
