/- Chapter 10 in the program: chords, names of chords, classes of keys. -/
import Derived.Test.YtikkcehjfcfcdaaDoorWalks10S
namespace Go.Proofs.YtikkcehjfcfcdaaDoor
set_option linter.unusedSimpArgs false
set_option linter.unusedVariables false
set_option maxRecDepth 8000
open Go.RowKit Go.Joins

theorem adI_at {x : Pt} {v : Int × Int} {b : Bool} (h : adT? x v = b) (r1 : r64 v.1) (r2 : r64 v.2) (W : World) (ht : TabH W) :
    Calls Tryd.prog 32 #[.agg #[.int .i64 x.s, .int .i64 x.a, .int .i64 x.o], .agg #[.int .i64 v.1, .int .i64 v.2]] W fun e w' => e = .returned (.tuple #[.agg (if b then #[.int .i64 (adT x v).s, .int .i64 (adT x v).a, .int .i64 (adT x v).o] else #[.int .i64 0, .int .i64 0, .int .i64 0]), .bool b]) ∧ Below W.heap.size W w' := by
  cases b
  · exact adI_no x.s x.a x.o v.1 v.2 W ht r1 r2 h
  · exact adI_yes x.s x.a x.o v.1 v.2 W ht h
theorem asI_is {m n : Nat} {u : List Int} (hm : m < 4096) (hu : asL m = u) (hn : u.length = n) (W : World) (hT : TabU W) :
    Calls Tryd.prog 31 #[.int .u16 m] W (RowOut 3 1 n (intC u) W) := by
  subst hu hn; exact asI_any m W hm hT
theorem intC_ix {l : List Int} {j : Nat} {h : Int} (hj : l[j]? = some h) : (intC l)[j]? = some (.int .i64 h) := by
  unfold intC; rw [List.getElem?_map, hj]; rfl

set_option maxRecDepth 8000 in
set_option maxHeartbeats 4000000 in
theorem chI_in (x : Pt) (k : Nat) (w : World) (hk : k < 9) (ht : TabH w) (hK : TabK w) (hU : TabU w) :
    Calls Tryd.prog 9 #[.agg #[.int .i64 x.s, .int .i64 x.a, .int .i64 x.o], .int .i64 k] w (RowOutB 26 3 (chL x k).length (pcC (chL x k)) (chB x k) w) := by
  have hO := (Own.start w).nilRow 26 3
  have hF := True.intro
  obtain ⟨i0, hi, hz0, hz1, hz2⟩ := info_parts infoPi
  have cK : (w.alloc (.cells #[.int .i64 x.s, .int .i64 x.a, .int .i64 x.o] 26)).cell? ⟨0, k, none⟩ = some (.int .u16 ((kinT.getD k 0 : Nat) : Int)) := (hK.below (below1 _)).cell hk
  have hk0 : (k : Int) < 9 := by omega
  obtain ⟨L, hL⟩ : ∃ L, toneL (k : Int) = L := ⟨_, rfl⟩
  have hl := toneL_len (k : Int)
  have ht2 := kin_tones hk
  have hlt := kin_lt hk
  rw [hL] at hl ht2
  obtain ⟨n, hn⟩ : ∃ n, L.length = n := ⟨_, rfl⟩
  rw [hn] at hl
  obtain ⟨m, hm⟩ : ∃ m, kinT.getD k 0 = m := ⟨_, rfl⟩
  rw [hm] at cK ht2 hlt
  have HS := hid (fun W (hW : Below w.heap.size w W) => asI_is hlt ht2 (by rw [List.length_map, hn]) W (hU.below hW))
  have HL := hid (And.intro hL hn)
  have HT := hid ht
  clear hL hn hm ht2 hlt hK hU ht hk
  go_enter Tryd.func9, Tryd.ntmps9
  go_wp2_with ((go_at_call 31; apply own_at hO; (repeat (first | (with_reducible exact hO) | (with_reducible apply Own.alloc) | (with_reducible apply Own.drew) | ((with_reducible apply Own.set_at); (focus (show _ ≤ _; omega))))); have hG := hF; clear hF; clear hO; intro hO; refine own_call_row hO (fun hB => HS.out _ hB) ?_; clear hO; intro v w1 hO; (try simp only [World.size_alloc1, World.size_drew, Nat.reduceAdd] at hO); (try simp only [upd, updI, List.map_cons, List.map_nil, eq_self, if_true, if_false, reduceIte, Nat.add_eq_left, Nat.left_eq_add, Nat.reduceEqDiff, List.set_cons_zero, List.set_cons_succ, hG] at hO); clear hG; have hF := hO; (try simp only [Own, Item.Holds, apartI, CellsAt, Nat.reduceAdd, Nat.zero_add, List.mem_cons, List.not_mem_nil, or_false, forall_eq_or_imp, forall_eq, ne_eq, false_imp_iff, implies_true, and_true] at hF)); obtain ⟨q, cap, hq, hc1, hc2⟩ := hO.row_open (by omega); subst hq; clear hc1 hc2)
  clear cK
  replace hO := hO.perm (List.Perm.trans (List.Perm.cons _ (List.Perm.swap _ _ _)) (List.Perm.swap _ _ _))
  go_loopw [6, 22] (fun u t wr => ∃ j : Nat, j ≤ n ∧ t = .int .i64 j ∧ Hid (∀ (i : Nat) (v : Int × Int), i < j → L[i]? = some v → adT? x v = true) ∧ Own w.heap.size (Below w.heap.size w) wr [.row 26 3 u j (pcC ((L.take j).map (adT x))), .row 3 1 (.slice (some ⟨q, 0, none⟩) n cap) n (intC (L.map Prod.snd)), .blk w.heap.size [.int .i64 x.s, .int .i64 x.a, .int .i64 x.o]]) (fun _ t _ => n - (intOf t).toNat)
  case atStart => exact ⟨0, by omega, rfl, fun i v h => by omega, hO⟩
  case round =>
    clear hO hF
    obtain ⟨j, hj, rfl, hok, hO⟩ := hrel
    have hF := hO; (try simp only [Own, Item.Holds, apartI, CellsAt, Nat.reduceAdd, Nat.zero_add, List.mem_cons, List.not_mem_nil, or_false, forall_eq_or_imp, forall_eq, ne_eq, false_imp_iff, implies_true, and_true] at hF)
    by_cases he : j = n
    · subst he
      have hall : ∀ v, v ∈ toneL (k : Int) → adT? x v = true := by
        rw [HL.out.1]
        exact all_ixT fun i v hi hv => hok.out i v (by have := HL.out.2; omega) hv
      have h00 : adT? x (0, 0) = true := hall _ (List.mem_of_getElem? (toneL_hd (k : Int)).1)
      have hb : chB x k = true := chB_iff.2 ⟨(adB_parts h00).1, by omega, hall⟩
      have HE := hid (show chL x k = (L.take j).map (adT x) by rw [chL_yes hb, HL.out.1, ← HL.out.2, List.take_length])
      have HN := hid (show (chL x k).length = j by rw [chL_n hb, HL.out.1, HL.out.2])
      have HB := hid hb
      clear hall hb h00
      go_wp2_with fail
      go_ret2
      rw [HN.out, HE.out, HB.out]
      exact RowOutB.mk hO
    · have hlt : j < n := by omega
      have hlt2 : (j : Int) < n := by omega
      obtain ⟨⟨v1, h⟩, hv⟩ : ∃ v, L[j]? = some v := ⟨_, List.getElem?_eq_getElem (by have := HL.out.2; omega)⟩
      have hv1 : v1 = 2 * (j : Int) := (toneL_at (k := (k : Int)) (by rw [HL.out.1]; exact hv)).1
      subst hv1
      have hbd := toneL_bd (k := (k : Int)) (v := (2 * (j : Int), h)) (by rw [HL.out.1]; exact List.mem_of_getElem? hv)
      dsimp only at hbd
      have HX := hid hv
      have HU := hid (take_upT (x := x) hv)
      have HI := hid (show (intC (L.map Prod.snd))[j]? = some (.int .i64 h) from intC_ix (by rw [List.getElem?_map, hv]; rfl))
      obtain ⟨b, hb⟩ : ∃ b, adT? x (2 * (j : Int), h) = b := ⟨_, rfl⟩
      have HA := hid (fun W (hW : Below w.heap.size w W) => adI_at hb (by unfold r64; dsimp only; omega) (by unfold r64; dsimp only; omega) W (HT.out.below hW))
      dsimp only at HA
      have e1 : IntKind.i64.wrap (2 * (j : Int)) = 2 * (j : Int) := IntWalk.i64_in _ (by omega)
      have d0 := hO.2.row_cell HI.out
      clear he hv hbd
      cases b
      · have HB := hid (show chB x k = false by
          rw [← Bool.not_eq_true]
          intro h
          have := (chB_iff.1 h).2.2 _ (by rw [HL.out.1]; exact List.mem_of_getElem? HX.out)
          rw [hb] at this
          cases this)
        clear hb
        go_wp2_with (go_at_call 32; apply own_at hO; (repeat (first | (with_reducible exact hO) | (with_reducible apply Own.alloc) | (with_reducible apply Own.drew) | ((with_reducible apply Own.set_at); (focus (show _ ≤ _; omega))))); have hG := hF; clear hF; clear hO; intro hO; refine own_call hO (fun hB => HA.out _ hB) ?_; clear hO; intro w1 hO; (try simp only [World.size_alloc1, World.size_drew, Nat.reduceAdd] at hO); (try simp only [upd, updI, List.map_cons, List.map_nil, eq_self, if_true, if_false, reduceIte, Nat.add_eq_left, Nat.left_eq_add, Nat.reduceEqDiff, List.set_cons_zero, List.set_cons_succ, hG] at hO); clear hG; have hF := hO; (try simp only [Own, Item.Holds, apartI, CellsAt, Nat.reduceAdd, Nat.zero_add, List.mem_cons, List.not_mem_nil, or_false, forall_eq_or_imp, forall_eq, ne_eq, false_imp_iff, implies_true, and_true] at hF))
        go_ret2
        rw [HB.out, chL_no HB.out]
        exact RowOutB.mk (Own.nilRow 26 3 (Own.alloc hO))
      · have HB := hid (show ∀ (i : Nat) (v : Int × Int), i < j + 1 → L[i]? = some v → adT? x v = true from fun i u hi hu => by
          rcases (show i < j ∨ i = j by omega) with h | rfl
          · exact hok.out i u h hu
          · rw [HX.out] at hu; cases hu; exact hb)
        clear hb
        go_wp2_with (first | (go_at_call 32; apply own_at hO; (repeat (first | (with_reducible exact hO) | (with_reducible apply Own.alloc) | (with_reducible apply Own.drew) | ((with_reducible apply Own.set_at); (focus (show _ ≤ _; omega))))); have hG := hF; clear hF; clear hO; intro hO; refine own_call hO (fun hB => HA.out _ hB) ?_; clear hO; intro w1 hO; (try simp only [World.size_alloc1, World.size_drew, Nat.reduceAdd] at hO); (try simp only [upd, updI, List.map_cons, List.map_nil, eq_self, if_true, if_false, reduceIte, Nat.add_eq_left, Nat.left_eq_add, Nat.reduceEqDiff, List.set_cons_zero, List.set_cons_succ, hG] at hO); clear hG; have hF := hO; (try simp only [Own, Item.Holds, apartI, CellsAt, Nat.reduceAdd, Nat.zero_add, List.mem_cons, List.not_mem_nil, or_false, forall_eq_or_imp, forall_eq, ne_eq, false_imp_iff, implies_true, and_true] at hF)) | (at_builtin; apply own_list hO; (repeat (first | (with_reducible exact hO) | (with_reducible apply Own.alloc) | (with_reducible apply Own.drew) | ((with_reducible apply Own.set_at); (focus (show _ ≤ _; omega))))); have hG := hF; clear hF; clear hO; intro hO; (try simp only [World.size_alloc1, World.size_drew, Nat.reduceAdd] at hO); (try simp only [upd, updI, List.map_cons, List.map_nil, eq_self, if_true, if_false, reduceIte, Nat.add_eq_left, Nat.left_eq_add, Nat.reduceEqDiff, List.set_cons_zero, List.set_cons_succ, hG] at hO); clear hG; (try simp only [World.size_setCell] at hO); have hF := hO; (try simp only [Own, Item.Holds, apartI, CellsAt, Nat.reduceAdd, Nat.zero_add, List.mem_cons, List.not_mem_nil, or_false, forall_eq_or_imp, forall_eq, ne_eq, false_imp_iff, implies_true, and_true] at hF); replace hO := Own.sub (.cons_cons _ (.cons _ (List.Sublist.refl _))) hO; refine wpList_append_item rfl _ _ 23 rfl 26 i0 (.agg #[.int .i64 0, .int .i64 0, .int .i64 0]) 3 24 Tryd.underlying23 hi hz0 hz1 hz2 rfl (by decide) rfl rfl hO rfl one3t (by unfold maxLen; omega) (by omega) ?_; clear hO hF; intro v' w2 hO _; have hF := True.intro))
        go_roundw
        case rel => exact ⟨j + 1, by omega, by go_num, HB.out, by rw [← HU.out]; exact hO⟩
        case measure => simp [intOf]; omega

theorem chI_out (x : Pt) (k : Int) (w : World) (hk : k < 0 ∨ 9 ≤ k) :
    Calls Tryd.prog 9 #[.agg #[.int .i64 x.s, .int .i64 x.a, .int .i64 x.o], .int .i64 k] w (RowOutB 26 3 0 [] false w) := by
  have hO := Own.start w
  have hF := True.intro
  rcases hk with h | h
  · go_enter Tryd.func9, Tryd.ntmps9
    go_wp2_with fail
    go_ret2
    exact RowOutB.mk (Own.nilRow 26 3 (Own.alloc hO))
  · have h0 : ¬ k < 0 := by omega
    go_enter Tryd.func9, Tryd.ntmps9
    go_wp2_with fail
    go_ret2
    exact RowOutB.mk (Own.nilRow 26 3 (Own.alloc hO))
theorem chI_any (x : Pt) (k : Int) (w : World) (ht : TabH w) (hK : TabK w) (hU : TabU w) :
    Calls Tryd.prog 9 #[.agg #[.int .i64 x.s, .int .i64 x.a, .int .i64 x.o], .int .i64 k] w (RowOutB 26 3 (chL x k).length (pcC (chL x k)) (chB x k) w) := by
  by_cases h : 0 ≤ k ∧ k ≤ 8
  · obtain ⟨n, rfl⟩ : ∃ n : Nat, k = n := ⟨k.toNat, by omega⟩
    exact chI_in x n w (by omega) ht hK hU
  · have hb : chB x k = false := by
      rw [← Bool.not_eq_true]
      intro hb
      exact h (chB_iff.1 hb).2.1
    rw [hb, chL_no hb]
    exact chI_out x k w (by omega)
theorem chI_C (w : World) (ht : TabH w) (hK : TabK w) (hU : TabU w) : CCh 9 w := fun x k W hW _ _ => chI_any x k W (ht.below hW) (hK.below hW) (hU.below hW)

theorem cs_is {va : Value} {l : List Pt} {n m : Nat} {w : World} (hn : l.length = n) (hs : SlAt w va n 3 (pcC l)) (h12 : n ≤ 12) (hv : l.all pvP = true) (ht : TabH w) (hm : bmN l n = m) (W : World) (hW : Below w.heap.size w W) :
    Calls Tryd.prog 19 #[va] W fun e w' => e = .returned (.int .u16 m) ∧ Below W.heap.size W w' := by
  subst hn hm; exact clI_any va l W (hs.below hW) h12 (fun x hx => List.all_eq_true.1 hv x hx) (ht.below hW)

set_option maxHeartbeats 2000000 in
theorem kcI_any (va : Value) (l : List Pt) (w : World) (hs : SlAt w va l.length 3 (pcC l)) (hn : l.length ≤ 1048576) (ht : TabH w) (hU : TabU w) :
    Calls Tryd.prog 11 #[va] w (RowOut 3 1 (kcL l).length (intC (kcL l)) w) := by
  have hO := Own.start w
  have hF := True.intro
  obtain ⟨n, hnl⟩ : ∃ n, l.length = n := ⟨_, rfl⟩
  rw [hnl] at hs hn
  cases hb : (l.all pvP && decide (n ≤ 12))
  · have HV := hid (lvI_is hnl hs hn hb)
    have HE := hid (show kcL l = [] by unfold kcL; rw [hnl, hb]; rfl)
    clear hb hs ht hU
    go_enter Tryd.func11, Tryd.ntmps11
    go_wp2_with (go_at_call 18; apply own_at hO; (repeat (first | (with_reducible exact hO) | (with_reducible apply Own.alloc) | (with_reducible apply Own.drew) | ((with_reducible apply Own.set_at); (focus (show _ ≤ _; omega))))); have hG := hF; clear hF; clear hO; intro hO; refine own_call hO (fun hB => HV.out _ hB) ?_; clear hO; intro w1 hO; (try simp only [World.size_alloc1, World.size_drew, Nat.reduceAdd] at hO); (try simp only [upd, updI, List.map_cons, List.map_nil, eq_self, if_true, if_false, reduceIte, Nat.add_eq_left, Nat.left_eq_add, Nat.reduceEqDiff, List.set_cons_zero, List.set_cons_succ, hG] at hO); clear hG; have hF := hO; (try simp only [Own, Item.Holds, apartI, CellsAt, Nat.reduceAdd, Nat.zero_add, List.mem_cons, List.not_mem_nil, or_false, forall_eq_or_imp, forall_eq, ne_eq, false_imp_iff, implies_true, and_true] at hF))
    go_ret
    rw [HE.out]
    exact RowOut.mk (Own.nilRow 3 1 hO)
  · have HV := hid (lvI_is hnl hs hn hb)
    have HE := hid (show kcL l = asL (bmN l n) by unfold kcL; rw [hnl, hb, ← hnl, asL_mk]; rfl)
    simp only [Bool.and_eq_true, decide_eq_true_eq] at hb
    have hm := bmN_lt l n
    obtain ⟨m, hm2⟩ : ∃ m, bmN l n = m := ⟨_, rfl⟩
    have HC := hid (cs_is hnl hs hb.2 hb.1 ht hm2)
    rw [hm2] at HE hm
    have HA := hid (fun W (hW : Below w.heap.size w W) => asI_any m W hm (hU.below hW))
    clear hb hs ht hU hm2
    go_enter Tryd.func11, Tryd.ntmps11
    go_wp2_with (first | (go_at_call 18; apply own_at hO; (repeat (first | (with_reducible exact hO) | (with_reducible apply Own.alloc) | (with_reducible apply Own.drew) | ((with_reducible apply Own.set_at); (focus (show _ ≤ _; omega))))); have hG := hF; clear hF; clear hO; intro hO; refine own_call hO (fun hB => HV.out _ hB) ?_; clear hO; intro w1 hO; (try simp only [World.size_alloc1, World.size_drew, Nat.reduceAdd] at hO); (try simp only [upd, updI, List.map_cons, List.map_nil, eq_self, if_true, if_false, reduceIte, Nat.add_eq_left, Nat.left_eq_add, Nat.reduceEqDiff, List.set_cons_zero, List.set_cons_succ, hG] at hO); clear hG; have hF := hO; (try simp only [Own, Item.Holds, apartI, CellsAt, Nat.reduceAdd, Nat.zero_add, List.mem_cons, List.not_mem_nil, or_false, forall_eq_or_imp, forall_eq, ne_eq, false_imp_iff, implies_true, and_true] at hF)) | (go_at_call 19; apply own_at hO; (repeat (first | (with_reducible exact hO) | (with_reducible apply Own.alloc) | (with_reducible apply Own.drew) | ((with_reducible apply Own.set_at); (focus (show _ ≤ _; omega))))); have hG := hF; clear hF; clear hO; intro hO; refine own_call hO (fun hB => HC.out _ hB) ?_; clear hO; intro w1 hO; (try simp only [World.size_alloc1, World.size_drew, Nat.reduceAdd] at hO); (try simp only [upd, updI, List.map_cons, List.map_nil, eq_self, if_true, if_false, reduceIte, Nat.add_eq_left, Nat.left_eq_add, Nat.reduceEqDiff, List.set_cons_zero, List.set_cons_succ, hG] at hO); clear hG; have hF := hO; (try simp only [Own, Item.Holds, apartI, CellsAt, Nat.reduceAdd, Nat.zero_add, List.mem_cons, List.not_mem_nil, or_false, forall_eq_or_imp, forall_eq, ne_eq, false_imp_iff, implies_true, and_true] at hF)) | (go_at_call 31; apply own_at hO; (repeat (first | (with_reducible exact hO) | (with_reducible apply Own.alloc) | (with_reducible apply Own.drew) | ((with_reducible apply Own.set_at); (focus (show _ ≤ _; omega))))); have hG := hF; clear hF; clear hO; intro hO; refine own_call_row hO (fun hB => HA.out _ hB) ?_; clear hO; intro v w1 hO; (try simp only [World.size_alloc1, World.size_drew, Nat.reduceAdd] at hO); (try simp only [upd, updI, List.map_cons, List.map_nil, eq_self, if_true, if_false, reduceIte, Nat.add_eq_left, Nat.left_eq_add, Nat.reduceEqDiff, List.set_cons_zero, List.set_cons_succ, hG] at hO); clear hG; have hF := hO; (try simp only [Own, Item.Holds, apartI, CellsAt, Nat.reduceAdd, Nat.zero_add, List.mem_cons, List.not_mem_nil, or_false, forall_eq_or_imp, forall_eq, ne_eq, false_imp_iff, implies_true, and_true] at hF)))
    go_ret
    rw [HE.out]
    exact RowOut.mk hO
theorem kcI_C (w : World) (ht : TabH w) (hU : TabU w) : CKc 11 w := fun va l W hW hs hn _ => kcI_any va l W hs hn (ht.below hW) (hU.below hW)

theorem pv_r4o {x : Pt} (h : pvP x = true) : pvB x.s x.a 4 = true := pv_r4 h
theorem abI_is {x : Pt} {l : List Pt} {n m s : Nat} (hv : pvP x = true) (hn : l.length = n) (hm : bmN l n = m) (hs : seN l x = s) (W : World) (ht : TabH W) :
    Calls Tryd.prog 21 #[.int .u16 m, .agg #[.int .i64 x.s, .int .i64 x.a, .int .i64 4]] W fun e w' => e = .returned (.int .u16 s) ∧ Below W.heap.size W w' := by
  subst hn hm hs
  exact abI_any (r4 x) (bmN l l.length) W (pv_r4 hv) (bmN_lt _ _) ht
theorem chI_r4 {x : Pt} {k : Int} {m : Nat} {t : List Pt} {b : Bool} (hb : chB (r4 x) k = b) (ht : chL (r4 x) k = t) (hm : t.length = m) (W : World) (hH : TabH W) (hK : TabK W) (hU : TabU W) :
    Calls Tryd.prog 9 #[.agg #[.int .i64 x.s, .int .i64 x.a, .int .i64 4], .int .i64 k] W (RowOutB 26 3 m (pcC t) b W) := by
  subst hb ht hm; exact chI_any (r4 x) k W hH hK hU

set_option maxRecDepth 8000 in
set_option maxHeartbeats 8000000 in
theorem nmI_in (va : Value) (l : List Pt) (n : Nat) (w : World) (hnl : l.length = n) (hs : SlAt w va n 3 (pcC l)) (hv : l.all pvP = true) (h12 : n ≤ 12) (ht : TabH w) (hK : TabK w) (hU : TabU w) :
    Calls Tryd.prog 6 #[va] w fun e w' => e = .returned (namV (nmZ l)) ∧ Below w.heap.size w w' := by
  have hO := Own.start w
  have hF := True.intro
  have hok : (l.all pvP && decide (n ≤ 12)) = true := by rw [hv, decide_eq_true h12]; rfl
  have HV := hid (lvI_is hnl hs (by omega) hok)
  obtain ⟨m0, hm0⟩ : ∃ m, bmN l n = m := ⟨_, rfl⟩
  have HC := hid (cs_is hnl hs h12 hv ht hm0)
  have HM0 := hid hm0
  have HE := hid (show nmZ l = (l.drop 0).findSome? (roF l) by unfold nmZ; rw [hnl, hok]; rfl)
  obtain ⟨A, cA, rfl, nb, hA⟩ := hs.open
  have HA := hid hs
  have HT := hid (And.intro ht (And.intro hK hU))
  have HN := hid hnl
  have HP := hid hv
  clear hs ht hK hU hnl hv hok hm0
  go_enter Tryd.func6, Tryd.ntmps6
  go_wp2_with (first | (go_at_call 18; apply own_at hO; (repeat (first | (with_reducible exact hO) | (with_reducible apply Own.alloc) | (with_reducible apply Own.drew) | ((with_reducible apply Own.set_at); (focus (show _ ≤ _; omega))))); have hG := hF; clear hF; clear hO; intro hO; refine own_call hO (fun hB => HV.out _ hB) ?_; clear hO; intro w1 hO; (try simp only [World.size_alloc1, World.size_drew, Nat.reduceAdd] at hO); (try simp only [upd, updI, List.map_cons, List.map_nil, eq_self, if_true, if_false, reduceIte, Nat.add_eq_left, Nat.left_eq_add, Nat.reduceEqDiff, List.set_cons_zero, List.set_cons_succ, hG] at hO); clear hG; have hF := hO; (try simp only [Own, Item.Holds, apartI, CellsAt, Nat.reduceAdd, Nat.zero_add, List.mem_cons, List.not_mem_nil, or_false, forall_eq_or_imp, forall_eq, ne_eq, false_imp_iff, implies_true, and_true] at hF)) | (go_at_call 19; apply own_at hO; (repeat (first | (with_reducible exact hO) | (with_reducible apply Own.alloc) | (with_reducible apply Own.drew) | ((with_reducible apply Own.set_at); (focus (show _ ≤ _; omega))))); have hG := hF; clear hF; clear hO; intro hO; refine own_call hO (fun hB => HC.out _ hB) ?_; clear hO; intro w1 hO; (try simp only [World.size_alloc1, World.size_drew, Nat.reduceAdd] at hO); (try simp only [upd, updI, List.map_cons, List.map_nil, eq_self, if_true, if_false, reduceIte, Nat.add_eq_left, Nat.left_eq_add, Nat.reduceEqDiff, List.set_cons_zero, List.set_cons_succ, hG] at hO); clear hG; have hF := hO; (try simp only [Own, Item.Holds, apartI, CellsAt, Nat.reduceAdd, Nat.zero_add, List.mem_cons, List.not_mem_nil, or_false, forall_eq_or_imp, forall_eq, ne_eq, false_imp_iff, implies_true, and_true] at hF)))
  (apply own_code hO; (repeat (first | (with_reducible exact hO) | (with_reducible apply Own.alloc) | (with_reducible apply Own.drew) | ((with_reducible apply Own.set_at); (focus (show _ ≤ _; omega))))); have hG := hF; clear hF; clear hO; intro hO; (try simp only [World.size_alloc1, World.size_drew, Nat.reduceAdd] at hO); (try simp only [upd, updI, List.map_cons, List.map_nil, eq_self, if_true, if_false, reduceIte, Nat.add_eq_left, Nat.left_eq_add, Nat.reduceEqDiff, List.set_cons_zero, List.set_cons_succ, hG] at hO); clear hG; have hF := hO; (try simp only [Own, Item.Holds, apartI, CellsAt, Nat.reduceAdd, Nat.zero_add, List.mem_cons, List.not_mem_nil, or_false, forall_eq_or_imp, forall_eq, ne_eq, false_imp_iff, implies_true, and_true] at hF))
  go_loopw [21] (fun t wr => ∃ r : Nat, r ≤ n ∧ t = .int .i64 r ∧ Hid (nmZ l = (l.drop r).findSome? (roF l)) ∧ Own w.heap.size (Below w.heap.size w) wr [.blk w.heap.size [.int .i64 0, .int .i64 0, .int .i64 0]]) (fun t _ => n - (intOf t).toNat)
  case atStart => exact ⟨0, by omega, rfl, HE, hO⟩
  case round =>
    clear hO hF HE HV HC
    obtain ⟨r, hr, rfl, HE, hO⟩ := hrel
    have hF := hO; (try simp only [Own, Item.Holds, apartI, CellsAt, Nat.reduceAdd, Nat.zero_add, List.mem_cons, List.not_mem_nil, or_false, forall_eq_or_imp, forall_eq, ne_eq, false_imp_iff, implies_true, and_true] at hF)
    by_cases he : r = n
    · subst he
      have HE2 := hid (HE.out.trans (findSome_end (by rw [HN.out]; exact Nat.le_refl _)))
      go_wp2_with fail
      rw [HE2.out]
      apply own_end hO
      (repeat (first | (with_reducible exact hO) | (with_reducible apply Own.alloc) | (with_reducible apply Own.drew) | ((with_reducible apply Own.set_at); (focus (show _ ≤ _; omega)))))
      have hG := hF; clear hF; clear hO; intro hO
      refine own_ret (v := .tuple #[.agg #[.int .i64 0, .int .i64 0, .int .i64 0], .int .i64 (-1), .int .i64 (-1), .bool false]) hO ?_ rfl (fun hO => ⟨rfl, hO.base⟩)
      clear hO; intro w1 hO
      (try simp only [World.size_alloc1, World.size_drew, Nat.reduceAdd] at hO); (try simp only [upd, updI, List.map_cons, List.map_nil, eq_self, if_true, if_false, reduceIte, Nat.add_eq_left, Nat.left_eq_add, Nat.reduceEqDiff, List.set_cons_zero, List.set_cons_succ, hG] at hO); clear hG
      have hF := hO; (try simp only [Own, Item.Holds, apartI, CellsAt, Nat.reduceAdd, Nat.zero_add, List.mem_cons, List.not_mem_nil, or_false, forall_eq_or_imp, forall_eq, ne_eq, false_imp_iff, implies_true, and_true] at hF)
      simp [results, Tryd.results6, go_sem, hF]
    · have hrl : r < n := by omega
      have hrl2 : (r : Int) < n := by omega
      obtain ⟨b, off, rfl, hc1, hc2, hb⟩ := hA (by omega)
      obtain ⟨x, hx⟩ : ∃ x, l[r]? = some x := ⟨_, List.getElem?_eq_getElem (by have := HN.out; omega)⟩
      have hxv : pvP x = true := List.all_eq_true.1 HP.out x (List.mem_of_getElem? hx)
      obtain ⟨d0, d1, d2⟩ := ptAt (HA.out.below hO.base) hx
      have hne : 0 < l.length := by have := HN.out; omega
      have hlow := lowN_lt l l.length hne
      obtain ⟨y, hy⟩ : ∃ y, l[lowN l l.length]? = some y := ⟨_, List.getElem?_eq_getElem hlow⟩
      obtain ⟨se, hse⟩ : ∃ s, seN l x = s := ⟨_, rfl⟩
      obtain ⟨k, hk⟩ : ∃ k, kdZ se = k := ⟨_, rfl⟩
      have hro := ro_is (x := x) HP.out hne
      rw [hse, hk] at hro
      unfold naR at hro
      rw [getD_of hy] at hro
      obtain ⟨T, hT⟩ : ∃ T, chL (r4 x) k = T := ⟨_, rfl⟩
      obtain ⟨B, hB0⟩ : ∃ B, chB (r4 x) k = B := ⟨_, rfl⟩
      obtain ⟨m, hm⟩ : ∃ m, T.length = m := ⟨_, rfl⟩
      have hm4 : m ≤ 4 := by rw [← hm, ← hT]; exact chL_len _ _
      obtain ⟨D, hD⟩ : ∃ D, l.all (hasB T) = D := ⟨_, rfl⟩
      obtain ⟨z, hz⟩ : ∃ z, fsN T y 0 = z := ⟨_, rfl⟩
      rw [hT, hB0, hD, hz] at hro
      have HRO := hid hro
      have HX := hid hx
      have HAB := hid (fun W (hW : Below w.heap.size w W) => abI_is hxv HN.out HM0.out hse W (HT.out.1.below hW))
      have HKD := hid (fun W (hW : Below w.heap.size w W) => kdI_is hk W (HT.out.2.1.below hW))
      have HCH := hid (fun W (hW : Below w.heap.size w W) => chI_r4 hB0 hT hm W (HT.out.1.below hW) (HT.out.2.1.below hW) (HT.out.2.2.below hW))
      have HSA := hid (fun vt W (hW : Below w.heap.size w W) (hs : SlAt W vt m 3 (pcC T)) => saI_is hm HN.out (by omega) (by omega) hD vt _ W (HA.out.below hW) hs)
      have HLO := hid (fun W (hW : Below w.heap.size w W) => loI_any _ l W (by rw [HN.out]; exact HA.out.below hW) (by have := HN.out; omega) hne (HT.out.1.below hW) y hy)
      have HTN := hid (fun vt W (hs : SlAt W vt m 3 (pcC T)) => tnI_is hm (by omega) hz vt W hs)
      clear he hx hxv hne hlow hy hse hk hro hT hB0 hm hD hz
      cases B
      · have HE2 := hid (HE.out.trans (findSome_miss HX.out (HRO.out.trans rfl)))
        go_wp2_with (first | (go_at_call 21; apply own_at hO; (repeat (first | (with_reducible exact hO) | (with_reducible apply Own.alloc) | (with_reducible apply Own.drew) | ((with_reducible apply Own.set_at); (focus (show _ ≤ _; omega))))); have hG := hF; clear hF; clear hO; intro hO; refine own_call hO (fun hB => HAB.out _ hB) ?_; clear hO; intro w1 hO; (try simp only [World.size_alloc1, World.size_drew, Nat.reduceAdd] at hO); (try simp only [upd, updI, List.map_cons, List.map_nil, eq_self, if_true, if_false, reduceIte, Nat.add_eq_left, Nat.left_eq_add, Nat.reduceEqDiff, List.set_cons_zero, List.set_cons_succ, hG] at hO); clear hG; have hF := hO; (try simp only [Own, Item.Holds, apartI, CellsAt, Nat.reduceAdd, Nat.zero_add, List.mem_cons, List.not_mem_nil, or_false, forall_eq_or_imp, forall_eq, ne_eq, false_imp_iff, implies_true, and_true] at hF)) | (go_at_call 20; apply own_at hO; (repeat (first | (with_reducible exact hO) | (with_reducible apply Own.alloc) | (with_reducible apply Own.drew) | ((with_reducible apply Own.set_at); (focus (show _ ≤ _; omega))))); have hG := hF; clear hF; clear hO; intro hO; refine own_call hO (fun hB => HKD.out _ hB) ?_; clear hO; intro w1 hO; (try simp only [World.size_alloc1, World.size_drew, Nat.reduceAdd] at hO); (try simp only [upd, updI, List.map_cons, List.map_nil, eq_self, if_true, if_false, reduceIte, Nat.add_eq_left, Nat.left_eq_add, Nat.reduceEqDiff, List.set_cons_zero, List.set_cons_succ, hG] at hO); clear hG; have hF := hO; (try simp only [Own, Item.Holds, apartI, CellsAt, Nat.reduceAdd, Nat.zero_add, List.mem_cons, List.not_mem_nil, or_false, forall_eq_or_imp, forall_eq, ne_eq, false_imp_iff, implies_true, and_true] at hF)) | (go_at_call 9; apply own_at hO; (repeat (first | (with_reducible exact hO) | (with_reducible apply Own.alloc) | (with_reducible apply Own.drew) | ((with_reducible apply Own.set_at); (focus (show _ ≤ _; omega))))); have hG := hF; clear hF; clear hO; intro hO; refine own_call_rowB hO (fun hB => HCH.out _ hB) ?_; clear hO; intro v w1 hO; (try simp only [World.size_alloc1, World.size_drew, Nat.reduceAdd] at hO); (try simp only [upd, updI, List.map_cons, List.map_nil, eq_self, if_true, if_false, reduceIte, Nat.add_eq_left, Nat.left_eq_add, Nat.reduceEqDiff, List.set_cons_zero, List.set_cons_succ, hG] at hO); clear hG; have hF := hO; (try simp only [Own, Item.Holds, apartI, CellsAt, Nat.reduceAdd, Nat.zero_add, List.mem_cons, List.not_mem_nil, or_false, forall_eq_or_imp, forall_eq, ne_eq, false_imp_iff, implies_true, and_true] at hF)))
        go_roundw
        case rel => exact ⟨r + 1, by omega, by go_num, HE2.out, Own.sub (by repeat (first | exact List.Sublist.refl _ | apply List.Sublist.cons)) hO⟩
        case measure => simp [intOf]; omega
      · cases D
        · have HE2 := hid (HE.out.trans (findSome_miss HX.out (HRO.out.trans rfl)))
          go_wp2_with (first | (go_at_call 21; apply own_at hO; (repeat (first | (with_reducible exact hO) | (with_reducible apply Own.alloc) | (with_reducible apply Own.drew) | ((with_reducible apply Own.set_at); (focus (show _ ≤ _; omega))))); have hG := hF; clear hF; clear hO; intro hO; refine own_call hO (fun hB => HAB.out _ hB) ?_; clear hO; intro w1 hO; (try simp only [World.size_alloc1, World.size_drew, Nat.reduceAdd] at hO); (try simp only [upd, updI, List.map_cons, List.map_nil, eq_self, if_true, if_false, reduceIte, Nat.add_eq_left, Nat.left_eq_add, Nat.reduceEqDiff, List.set_cons_zero, List.set_cons_succ, hG] at hO); clear hG; have hF := hO; (try simp only [Own, Item.Holds, apartI, CellsAt, Nat.reduceAdd, Nat.zero_add, List.mem_cons, List.not_mem_nil, or_false, forall_eq_or_imp, forall_eq, ne_eq, false_imp_iff, implies_true, and_true] at hF)) | (go_at_call 20; apply own_at hO; (repeat (first | (with_reducible exact hO) | (with_reducible apply Own.alloc) | (with_reducible apply Own.drew) | ((with_reducible apply Own.set_at); (focus (show _ ≤ _; omega))))); have hG := hF; clear hF; clear hO; intro hO; refine own_call hO (fun hB => HKD.out _ hB) ?_; clear hO; intro w1 hO; (try simp only [World.size_alloc1, World.size_drew, Nat.reduceAdd] at hO); (try simp only [upd, updI, List.map_cons, List.map_nil, eq_self, if_true, if_false, reduceIte, Nat.add_eq_left, Nat.left_eq_add, Nat.reduceEqDiff, List.set_cons_zero, List.set_cons_succ, hG] at hO); clear hG; have hF := hO; (try simp only [Own, Item.Holds, apartI, CellsAt, Nat.reduceAdd, Nat.zero_add, List.mem_cons, List.not_mem_nil, or_false, forall_eq_or_imp, forall_eq, ne_eq, false_imp_iff, implies_true, and_true] at hF)) | (go_at_call 9; apply own_at hO; (repeat (first | (with_reducible exact hO) | (with_reducible apply Own.alloc) | (with_reducible apply Own.drew) | ((with_reducible apply Own.set_at); (focus (show _ ≤ _; omega))))); have hG := hF; clear hF; clear hO; intro hO; refine own_call_rowB hO (fun hB => HCH.out _ hB) ?_; clear hO; intro v w1 hO; (try simp only [World.size_alloc1, World.size_drew, Nat.reduceAdd] at hO); (try simp only [upd, updI, List.map_cons, List.map_nil, eq_self, if_true, if_false, reduceIte, Nat.add_eq_left, Nat.left_eq_add, Nat.reduceEqDiff, List.set_cons_zero, List.set_cons_succ, hG] at hO); clear hG; have hF := hO; (try simp only [Own, Item.Holds, apartI, CellsAt, Nat.reduceAdd, Nat.zero_add, List.mem_cons, List.not_mem_nil, or_false, forall_eq_or_imp, forall_eq, ne_eq, false_imp_iff, implies_true, and_true] at hF)) | (go_at_call 22; apply own_at hO; (repeat (first | (with_reducible exact hO) | (with_reducible apply Own.alloc) | (with_reducible apply Own.drew) | ((with_reducible apply Own.set_at); (focus (show _ ≤ _; omega))))); have hG := hF; clear hF; clear hO; intro hO; refine own_callO hO (fun hW => HSA.out _ _ (Own.base hW) (SlAt.of_row hW.1.1)) ?_; clear hO; intro w1 hO; (try simp only [World.size_alloc1, World.size_drew, Nat.reduceAdd] at hO); (try simp only [upd, updI, List.map_cons, List.map_nil, eq_self, if_true, if_false, reduceIte, Nat.add_eq_left, Nat.left_eq_add, Nat.reduceEqDiff, List.set_cons_zero, List.set_cons_succ, hG] at hO); clear hG; have hF := hO; (try simp only [Own, Item.Holds, apartI, CellsAt, Nat.reduceAdd, Nat.zero_add, List.mem_cons, List.not_mem_nil, or_false, forall_eq_or_imp, forall_eq, ne_eq, false_imp_iff, implies_true, and_true] at hF)))
          go_roundw
          case rel => exact ⟨r + 1, by omega, by go_num, HE2.out, Own.sub (by repeat (first | exact List.Sublist.refl _ | apply List.Sublist.cons)) hO⟩
          case measure => simp [intOf]; omega
        · have HE2 := hid (HE.out.trans (findSome_hit HX.out (HRO.out.trans rfl)))
          go_wp2_with (first | (go_at_call 21; apply own_at hO; (repeat (first | (with_reducible exact hO) | (with_reducible apply Own.alloc) | (with_reducible apply Own.drew) | ((with_reducible apply Own.set_at); (focus (show _ ≤ _; omega))))); have hG := hF; clear hF; clear hO; intro hO; refine own_call hO (fun hB => HAB.out _ hB) ?_; clear hO; intro w1 hO; (try simp only [World.size_alloc1, World.size_drew, Nat.reduceAdd] at hO); (try simp only [upd, updI, List.map_cons, List.map_nil, eq_self, if_true, if_false, reduceIte, Nat.add_eq_left, Nat.left_eq_add, Nat.reduceEqDiff, List.set_cons_zero, List.set_cons_succ, hG] at hO); clear hG; have hF := hO; (try simp only [Own, Item.Holds, apartI, CellsAt, Nat.reduceAdd, Nat.zero_add, List.mem_cons, List.not_mem_nil, or_false, forall_eq_or_imp, forall_eq, ne_eq, false_imp_iff, implies_true, and_true] at hF)) | (go_at_call 20; apply own_at hO; (repeat (first | (with_reducible exact hO) | (with_reducible apply Own.alloc) | (with_reducible apply Own.drew) | ((with_reducible apply Own.set_at); (focus (show _ ≤ _; omega))))); have hG := hF; clear hF; clear hO; intro hO; refine own_call hO (fun hB => HKD.out _ hB) ?_; clear hO; intro w1 hO; (try simp only [World.size_alloc1, World.size_drew, Nat.reduceAdd] at hO); (try simp only [upd, updI, List.map_cons, List.map_nil, eq_self, if_true, if_false, reduceIte, Nat.add_eq_left, Nat.left_eq_add, Nat.reduceEqDiff, List.set_cons_zero, List.set_cons_succ, hG] at hO); clear hG; have hF := hO; (try simp only [Own, Item.Holds, apartI, CellsAt, Nat.reduceAdd, Nat.zero_add, List.mem_cons, List.not_mem_nil, or_false, forall_eq_or_imp, forall_eq, ne_eq, false_imp_iff, implies_true, and_true] at hF)) | (go_at_call 9; apply own_at hO; (repeat (first | (with_reducible exact hO) | (with_reducible apply Own.alloc) | (with_reducible apply Own.drew) | ((with_reducible apply Own.set_at); (focus (show _ ≤ _; omega))))); have hG := hF; clear hF; clear hO; intro hO; refine own_call_rowB hO (fun hB => HCH.out _ hB) ?_; clear hO; intro v w1 hO; (try simp only [World.size_alloc1, World.size_drew, Nat.reduceAdd] at hO); (try simp only [upd, updI, List.map_cons, List.map_nil, eq_self, if_true, if_false, reduceIte, Nat.add_eq_left, Nat.left_eq_add, Nat.reduceEqDiff, List.set_cons_zero, List.set_cons_succ, hG] at hO); clear hG; have hF := hO; (try simp only [Own, Item.Holds, apartI, CellsAt, Nat.reduceAdd, Nat.zero_add, List.mem_cons, List.not_mem_nil, or_false, forall_eq_or_imp, forall_eq, ne_eq, false_imp_iff, implies_true, and_true] at hF)) | (go_at_call 22; apply own_at hO; (repeat (first | (with_reducible exact hO) | (with_reducible apply Own.alloc) | (with_reducible apply Own.drew) | ((with_reducible apply Own.set_at); (focus (show _ ≤ _; omega))))); have hG := hF; clear hF; clear hO; intro hO; refine own_callO hO (fun hW => HSA.out _ _ (Own.base hW) (SlAt.of_row hW.1.1)) ?_; clear hO; intro w1 hO; (try simp only [World.size_alloc1, World.size_drew, Nat.reduceAdd] at hO); (try simp only [upd, updI, List.map_cons, List.map_nil, eq_self, if_true, if_false, reduceIte, Nat.add_eq_left, Nat.left_eq_add, Nat.reduceEqDiff, List.set_cons_zero, List.set_cons_succ, hG] at hO); clear hG; have hF := hO; (try simp only [Own, Item.Holds, apartI, CellsAt, Nat.reduceAdd, Nat.zero_add, List.mem_cons, List.not_mem_nil, or_false, forall_eq_or_imp, forall_eq, ne_eq, false_imp_iff, implies_true, and_true] at hF)))
          apply own_code hO
          (repeat (first | (with_reducible exact hO) | (with_reducible apply Own.alloc) | (with_reducible apply Own.drew) | ((with_reducible apply Own.set_at); (focus (show _ ≤ _; omega)))))
          have hG := hF; clear hF; clear hO; intro hO
          (try simp only [World.size_alloc1, World.size_drew, Nat.reduceAdd] at hO); (try simp only [upd, updI, List.map_cons, List.map_nil, eq_self, if_true, if_false, reduceIte, Nat.add_eq_left, Nat.left_eq_add, Nat.reduceEqDiff, List.set_cons_zero, List.set_cons_succ, hG] at hO); clear hG
          refine region_own (X := fun _ => True) [6] (by kernel_rfl) (hO) (trivial) (by first | exact XStab.true | exact XStab.rd | exact XStab.rdIf) ?_
          clear hO
          refine Sim.take (i := 0) (d := some 46) (v := ?_) rfl rfl (by kernel_rfl) (by kernel_rfl) (by kernel_rfl) (by kernel_rfl) (fun _ _ _ h => h) (by first | exact XStab.true | exact XStab.rd | exact XStab.rdIf) ?_ ?_
          rotate_left
          · first | refine Or.inl ⟨by rfl, fun w hO => ?_⟩ | (refine Or.inr ⟨by rfl, ?_⟩; with_reducible rfl)
            first | done | (have hF := hO; (try simp only [Own, Item.Holds, apartI, CellsAt, Nat.reduceAdd, Nat.zero_add, List.mem_cons, List.not_mem_nil, or_false, forall_eq_or_imp, forall_eq, ne_eq, false_imp_iff, implies_true, and_true] at hF); refine Out.same ?_; go_simp; all_goals with_reducible rfl)
          try simp only [Act.put, List.setIfInBounds_toArray, List.set_cons_zero, List.set_cons_succ]
          refine Sim.takeP (i := 1) (d := some 47) (v := ?_) rfl rfl (by kernel_rfl) (by kernel_rfl) (by kernel_rfl) (fun _ _ _ h => h) (by first | exact XStab.true | exact XStab.rd | exact XStab.rdIf) ?_ ?_
          rotate_left
          · first | refine Or.inl ⟨by rfl, fun w => ?_⟩ | (refine Or.inr ⟨by rfl, ?_⟩; with_reducible rfl)
            first | done | (go_simp; all_goals with_reducible rfl)
          try simp only [Act.put, List.setIfInBounds_toArray, List.set_cons_zero, List.set_cons_succ]
          refine Sim.takeP (i := 2) (d := some 48) (v := ?_) rfl rfl (by kernel_rfl) (by kernel_rfl) (by kernel_rfl) (fun _ _ _ h => h) (by first | exact XStab.true | exact XStab.rd | exact XStab.rdIf) ?_ ?_
          rotate_left
          · first | refine Or.inl ⟨by rfl, fun w => ?_⟩ | (refine Or.inr ⟨by rfl, ?_⟩; with_reducible rfl)
            first | done | (go_simp; all_goals with_reducible rfl)
          try simp only [Act.put, List.setIfInBounds_toArray, List.set_cons_zero, List.set_cons_succ]
          refine Sim.takeP (i := 3) (d := some 49) (v := ?_) rfl rfl (by kernel_rfl) (by kernel_rfl) (by kernel_rfl) (fun _ _ _ h => h) (by first | exact XStab.true | exact XStab.rd | exact XStab.rdIf) ?_ ?_
          rotate_left
          · first | refine Or.inl ⟨by rfl, fun w => ?_⟩ | (refine Or.inr ⟨by rfl, ?_⟩; with_reducible rfl)
            first | done | (go_simp; all_goals with_reducible rfl)
          try simp only [Act.put, List.setIfInBounds_toArray, List.set_cons_zero, List.set_cons_succ]
          refine Sim.one' (i := 4) (oi := { dst := some 50, op := Op.call { callee := Callee.value (Operand.func 24), args := #[Operand.tmp 49], argTypes := #[23] }, type := 26, pos := "l10_chords.go:70", after := #[{ on := 3, ground := Ground.data }], guard := none }) (by kernel_rfl) rfl (by rfl) (fun w0 hO hX K hK => ?_)
          have hF := hO; (try simp only [Own, Item.Holds, apartI, CellsAt, Nat.reduceAdd, Nat.zero_add, List.mem_cons, List.not_mem_nil, or_false, forall_eq_or_imp, forall_eq, ne_eq, false_imp_iff, implies_true, and_true] at hF)
          go_simp
          refine (HLO.out _ hO.base).mono ?_
          rintro e wa ⟨rfl, hBa⟩
          apply hK _ _ _ (fun _ => True)
          · exact hO.below hBa
          · exact trivial
          · exact XStab.true
          · first | exact fun _ _ h => h.2 | exact fun _ _ h => h | exact fun h => absurd h (by decide)
          clear hBa
          clear hK K hF hO
          try simp only [Act.put, List.setIfInBounds_toArray, List.set_cons_zero, List.set_cons_succ]
          refine Sim.one' (i := 5) (oi := { dst := some 51, op := Op.call { callee := Callee.value (Operand.func 23), args := #[Operand.tmp 48, Operand.tmp 50], argTypes := #[23, 26] }, type := 3, pos := "l10_chords.go:70", after := #[{ on := 2, ground := Ground.data }, { on := 4, ground := Ground.data }, { on := 4, ground := Ground.chain }], guard := none }) (by kernel_rfl) rfl (by rfl) (fun w0 hO hX K hK => ?_)
          have hF := hO; (try simp only [Own, Item.Holds, apartI, CellsAt, Nat.reduceAdd, Nat.zero_add, List.mem_cons, List.not_mem_nil, or_false, forall_eq_or_imp, forall_eq, ne_eq, false_imp_iff, implies_true, and_true] at hF)
          go_simp
          refine (HTN.out _ _ (SlAt.of_row hO.1.1)).mono ?_
          rintro e wa ⟨rfl, hBa⟩
          apply hK _ _ _ (fun _ => True)
          · exact hO.below hBa
          · exact trivial
          · exact XStab.true
          · first | exact fun _ _ h => h.2 | exact fun _ _ h => h | exact fun h => absurd h (by decide)
          clear hBa
          clear hK K hF hO
          try simp only [Act.put, List.setIfInBounds_toArray, List.set_cons_zero, List.set_cons_succ]
          refine Sim.one' (i := 6) (oi := { dst := none, op := Op.store 26 (Operand.tmp 2) (Operand.tmp 46), type := 0, pos := "l10_chords.go:70", after := #[{ on := 0, ground := Ground.data }, { on := 5, ground := Ground.chain }, { on := 0, ground := Ground.phase }, { on := 1, ground := Ground.textOnly Departure.lateStores }, { on := 2, ground := Ground.textOnly Departure.lateStores }, { on := 3, ground := Ground.textOnly Departure.lateStores }, { on := 4, ground := Ground.textOnly Departure.lateStoresUnsure }, { on := 5, ground := Ground.textOnly Departure.lateStoresUnsure }], guard := none }) (by kernel_rfl) rfl (by rfl) (fun w0 hO hX K hK => ?_)
          have hF := hO; (try simp only [Own, Item.Holds, apartI, CellsAt, Nat.reduceAdd, Nat.zero_add, List.mem_cons, List.not_mem_nil, or_false, forall_eq_or_imp, forall_eq, ne_eq, false_imp_iff, implies_true, and_true] at hF)
          go_simp
          apply hK _ _ _ (fun _ => True)
          (repeat (first | (with_reducible exact hO) | (with_reducible apply Own.alloc) | (with_reducible apply Own.drew) | ((with_reducible apply Own.set_at); (focus (show _ ≤ _; omega)))))
          · first | exact trivial | exact hX | exact hX.below (below1 _) | exact RdIf.gone | exact hX.keep ((Below.refl _ _).setCell (by first | omega | (dsimp only; omega)) _)
          · exact (by first | exact XStab.true | exact XStab.rd | exact XStab.rdIf)
          · first | exact fun _ _ h => h.2 | exact fun _ _ h => h | exact fun h => absurd h (by decide)
          try simp only [upd, updI, List.map_cons, List.map_nil, eq_self, if_true, if_false, reduceIte, Nat.add_eq_left, Nat.left_eq_add, Nat.reduceEqDiff, List.set_cons_zero, List.set_cons_succ, hF]
          clear hK K hF hO
          try simp only [Act.put, List.setIfInBounds_toArray, List.set_cons_zero, List.set_cons_succ]
          refine Sim.takeP (i := 7) (d := some 3) (v := ?_) rfl rfl (by kernel_rfl) (by kernel_rfl) (by kernel_rfl) (fun _ _ _ h => h) (by first | exact XStab.true | exact XStab.rd | exact XStab.rdIf) ?_ ?_
          rotate_left
          · first | refine Or.inl ⟨by rfl, fun w => ?_⟩ | (refine Or.inr ⟨by rfl, ?_⟩; with_reducible rfl)
            first | done | (go_simp; all_goals with_reducible rfl)
          try simp only [Act.put, List.setIfInBounds_toArray, List.set_cons_zero, List.set_cons_succ]
          refine Sim.takeP (i := 8) (d := some 4) (v := ?_) rfl rfl (by kernel_rfl) (by kernel_rfl) (by kernel_rfl) (fun _ _ _ h => h) (by first | exact XStab.true | exact XStab.rd | exact XStab.rdIf) ?_ ?_
          rotate_left
          · first | refine Or.inl ⟨by rfl, fun w => ?_⟩ | (refine Or.inr ⟨by rfl, ?_⟩; with_reducible rfl)
            first | done | (go_simp; all_goals with_reducible rfl)
          try simp only [Act.put, List.setIfInBounds_toArray, List.set_cons_zero, List.set_cons_succ]
          refine Sim.takeP (i := 9) (d := some 5) (v := ?_) rfl rfl (by kernel_rfl) (by kernel_rfl) (by kernel_rfl) (fun _ _ _ h => h) (by first | exact XStab.true | exact XStab.rd | exact XStab.rdIf) ?_ ?_
          rotate_left
          · first | refine Or.inl ⟨by rfl, fun w => ?_⟩ | (refine Or.inr ⟨by rfl, ?_⟩; with_reducible rfl)
            first | done | (go_simp; all_goals with_reducible rfl)
          try simp only [Act.put, List.setIfInBounds_toArray, List.set_cons_zero, List.set_cons_succ]
          refine Sim.done (by kernel_rfl) (fun w1 hO hX => ?_) _
          (try simp only [World.size_alloc1, World.size_drew, Nat.reduceAdd] at hO); (try simp only [upd, updI, List.map_cons, List.map_nil, eq_self, if_true, if_false, reduceIte, Nat.add_eq_left, Nat.left_eq_add, Nat.reduceEqDiff, List.set_cons_zero, List.set_cons_succ] at hO)
          have hF := hO; (try simp only [Own, Item.Holds, apartI, CellsAt, Nat.reduceAdd, Nat.zero_add, List.mem_cons, List.not_mem_nil, or_false, forall_eq_or_imp, forall_eq, ne_eq, false_imp_iff, implies_true, and_true] at hF)
          all_goals
            go_wp2
            rw [HE2.out]
            apply own_end hO
            (repeat (first | (with_reducible exact hO) | (with_reducible apply Own.alloc) | (with_reducible apply Own.drew) | ((with_reducible apply Own.set_at); (focus (show _ ≤ _; omega)))))
            have hG := hF; clear hF; clear hO; intro hO
            refine own_ret (v := .tuple #[.agg #[.int .i64 x.s, .int .i64 x.a, .int .i64 4], .int .i64 k, .int .i64 z, .bool true]) hO ?_ rfl (fun hO => ⟨rfl, hO.base⟩)
            clear hO; intro w1 hO
            (try simp only [World.size_alloc1, World.size_drew, Nat.reduceAdd] at hO); (try simp only [upd, updI, List.map_cons, List.map_nil, eq_self, if_true, if_false, reduceIte, Nat.add_eq_left, Nat.left_eq_add, Nat.reduceEqDiff, List.set_cons_zero, List.set_cons_succ, hG] at hO); clear hG
            have hF := hO; (try simp only [Own, Item.Holds, apartI, CellsAt, Nat.reduceAdd, Nat.zero_add, List.mem_cons, List.not_mem_nil, or_false, forall_eq_or_imp, forall_eq, ne_eq, false_imp_iff, implies_true, and_true] at hF)
            simp [results, Tryd.results6, go_sem, hF]

set_option maxHeartbeats 2000000 in
theorem nmI_any (va : Value) (l : List Pt) (w : World) (hs : SlAt w va l.length 3 (pcC l)) (hn : l.length ≤ 1048576) (ht : TabH w) (hK : TabK w) (hU : TabU w) :
    Calls Tryd.prog 6 #[va] w fun e w' => e = .returned (namV (nmZ l)) ∧ Below w.heap.size w w' := by
  have hO := Own.start w
  have hF := True.intro
  obtain ⟨n, hnl⟩ : ∃ n, l.length = n := ⟨_, rfl⟩
  rw [hnl] at hs hn
  cases hb : (l.all pvP && decide (n ≤ 12))
  · have HV := hid (lvI_is hnl hs hn hb)
    have HE := hid (show nmZ l = none by unfold nmZ; rw [hnl, hb]; rfl)
    clear hb hs ht hU hK
    go_enter Tryd.func6, Tryd.ntmps6
    go_wp2_with (go_at_call 18; apply own_at hO; (repeat (first | (with_reducible exact hO) | (with_reducible apply Own.alloc) | (with_reducible apply Own.drew) | ((with_reducible apply Own.set_at); (focus (show _ ≤ _; omega))))); have hG := hF; clear hF; clear hO; intro hO; refine own_call hO (fun hB => HV.out _ hB) ?_; clear hO; intro w1 hO; (try simp only [World.size_alloc1, World.size_drew, Nat.reduceAdd] at hO); (try simp only [upd, updI, List.map_cons, List.map_nil, eq_self, if_true, if_false, reduceIte, Nat.add_eq_left, Nat.left_eq_add, Nat.reduceEqDiff, List.set_cons_zero, List.set_cons_succ, hG] at hO); clear hG; have hF := hO; (try simp only [Own, Item.Holds, apartI, CellsAt, Nat.reduceAdd, Nat.zero_add, List.mem_cons, List.not_mem_nil, or_false, forall_eq_or_imp, forall_eq, ne_eq, false_imp_iff, implies_true, and_true] at hF))
    rw [HE.out]
    apply own_end hO
    (repeat (first | (with_reducible exact hO) | (with_reducible apply Own.alloc) | (with_reducible apply Own.drew) | ((with_reducible apply Own.set_at); (focus (show _ ≤ _; omega)))))
    have hG := hF; clear hF; clear hO; intro hO
    refine own_ret (v := .tuple #[.agg #[.int .i64 0, .int .i64 0, .int .i64 0], .int .i64 (-1), .int .i64 (-1), .bool false]) hO ?_ rfl (fun hO => ⟨rfl, hO.base⟩)
    clear hO; intro w1 hO
    (try simp only [World.size_alloc1, World.size_drew, Nat.reduceAdd] at hO); (try simp only [upd, updI, List.map_cons, List.map_nil, eq_self, if_true, if_false, reduceIte, Nat.add_eq_left, Nat.left_eq_add, Nat.reduceEqDiff, List.set_cons_zero, List.set_cons_succ, hG] at hO); clear hG
    have hF := hO; (try simp only [Own, Item.Holds, apartI, CellsAt, Nat.reduceAdd, Nat.zero_add, List.mem_cons, List.not_mem_nil, or_false, forall_eq_or_imp, forall_eq, ne_eq, false_imp_iff, implies_true, and_true] at hF)
    simp [results, Tryd.results6, go_sem, hF]
  · simp only [Bool.and_eq_true, decide_eq_true_eq] at hb
    exact nmI_in va l n w hnl hs hb.1 hb.2 ht hK hU
theorem nmI_C (w : World) (ht : TabH w) (hK : TabK w) (hU : TabU w) : CNm 6 w := fun va l W hW hs hn _ => nmI_any va l W hs hn (ht.below hW) (hK.below hW) (hU.below hW)
end Go.Proofs.YtikkcehjfcfcdaaDoor
