/- The functions that draw for a law of chapter 8: a note; texts; a voice. -/
import Derived.Test.YtefbphmlhghojaaDoorDrawsVo
import Derived.Test.YtefbphmlhghojaaDoorWalks8N
namespace Go.Proofs.YtefbphmlhghojaaDoor
set_option linter.unusedSimpArgs false
set_option linter.unusedVariables false
open Go.RowKit

/-- What drawing a text leaves. -/
def DrewT8 (w : World) (e : Ending) (w' : World) : Prop := ∃ t : ByteArray, t.size ≤ 1000 ∧ e = .returned (.string t) ∧ Below w.heap.size w w'

set_option maxHeartbeats 1000000 in
theorem DrawVoiceText_any (v : Value) (n : Nat) (w : World) (hn : n ≤ maxLen) (h : BytesB w w.heap.size v n) :
    Calls Tryd.prog 17 #[v] w (DrewVs w) := by
  go_enter Tryd.func17, Tryd.ntmps17
  go_wp2_with fail
  refine (open_any v n _ hn h).mono ?_
  rintro e w1 ⟨r, hr, rfl, hR, hb⟩
  go_wp2_with fail
  refine (l20Voice_any r 0 _ _ hR (by omega) (by omega) (by omega)).mono ?_
  rintro e w2 ⟨u, vs, hv, hl, rfl, ho, hR2, hB2⟩
  have HO := hid (vs_own hb hr hB2 ho)
  have HV := hid hv
  clear hR hb h hn hR2 hB2 ho hv
  go_wp2
  go_ret
  exact ⟨u, vs, HV.out, hl, rfl, HO.out⟩

theorem ne_two {a b r : Nat} {xs ys : List Value} (h1 : a ≠ r) (h2 : b ≠ r) : ∀ x ∈ [Item.blk a xs, Item.blk b ys], x.at? ≠ some r := by
  intro x hx e
  simp at hx
  rcases hx with rfl | rfl
  · exact h1 (by simpa [Item.at?] using e)
  · exact h2 (by simpa [Item.at?] using e)

set_option maxHeartbeats 2000000 in
theorem DrawNoteText_any (v : Value) (n : Nat) (w : World) (hn : n ≤ maxLen) (h : BytesB w w.heap.size v n) :
    Calls Tryd.prog 9 #[v] w (DrewNo w) := by
  have hO := Own.start w
  have hF := True.intro
  go_enter Tryd.func9, Tryd.ntmps9
  go_wp2_with fail
  apply own_at hO
  (repeat (first | (with_reducible exact hO) | (with_reducible apply Own.alloc) | (with_reducible apply Own.drew) | ((with_reducible apply Own.set_at); (focus (show _ ≤ _; omega)))))
  intro hO1
  refine (open_any v n _ hn (h.alloc _)).mono ?_
  rintro e w1 ⟨r, hr, rfl, hR, hb⟩
  have hne := hO1.ne_of hr
  have hr0 := Nat.le_trans hO1.low hr
  replace hO := hO1.below hb
  clear hO1 hb h hn
  go_wp2_with fail
  refine (l20Note_any r 0 _ _ hR (by omega) (by omega) (by omega)).mono ?_
  rintro e w2 ⟨⟨xr, xs, xa, xo, xt, xy⟩, hx, rfl, hR2, hB2⟩
  replace hO := hO.drawn hB2 hr0 hne
  have HX := hid hx
  have hrl := hR2.lt
  have hwr : w.heap.size ≠ r := fun e => hne _ List.mem_cons_self (by rw [e]; rfl)
  clear hR hB2 hne hx
  have hG := hF
  (try simp only [World.size_alloc1, World.size_drew, Nat.reduceAdd] at hO); (try simp only [upd, updI, List.map_cons, List.map_nil, eq_self, if_true, if_false, reduceIte, Nat.add_eq_left, Nat.left_eq_add, Nat.reduceEqDiff, List.set_cons_zero, List.set_cons_succ, hG] at hO); clear hG
  clear hF
  have hF := hO; (try simp only [Own, Item.Holds, apartI, CellsAt, Nat.reduceAdd, Nat.zero_add, List.mem_cons, List.not_mem_nil, or_false, forall_eq_or_imp, forall_eq, ne_eq, false_imp_iff, implies_true, and_true] at hF)
  cases xy
  · cases xr
    · go_wp2_with fail
      apply own_at hO
      (repeat (first | (with_reducible exact hO) | (with_reducible apply Own.alloc) | (with_reducible apply Own.drew) | ((with_reducible apply Own.set_at); (focus (show _ ≤ _; omega)))))
      intro hO1
      refine (pick_any r _ _ _ (hR2.below (below1 _)) (by omega) (by omega) (by omega)).mono ?_
      rintro e w3 ⟨x, x0, x1, rfl, hR3, hB3⟩
      replace hO := hO1.drawn hB3 hr0 (ne_two (by omega) hwr)
      clear hO1 hR2 hR3 hB3 hF
      have hF := hO; (try simp only [Own, Item.Holds, apartI, CellsAt, Nat.reduceAdd, Nat.zero_add, List.mem_cons, List.not_mem_nil, or_false, forall_eq_or_imp, forall_eq, ne_eq, false_imp_iff, implies_true, and_true] at hF)
      by_cases hz : x = 0
      · subst hz
        go_wp2
        apply own_end hO
        (repeat (first | (with_reducible exact hO) | (with_reducible apply Own.alloc) | (with_reducible apply Own.drew) | ((with_reducible apply Own.set_at); (focus (show _ ≤ _; omega)))))
        have hG := hF; clear hF; clear hO; intro hO
        refine own_ret (v := .agg #[.bool false, .int .i64 xs, .int .i64 xa, .int .i64 xo, .int .i64 xt, .bool true]) hO ?_ rfl (fun hO => ⟨⟨false, xs, xa, xo, xt, true⟩, HX.out, rfl, hO.base⟩)
        clear hO; intro w1 hO
        (try simp only [World.size_alloc1, World.size_drew, Nat.reduceAdd] at hO); (try simp only [upd, updI, List.map_cons, List.map_nil, eq_self, if_true, if_false, reduceIte, Nat.add_eq_left, Nat.left_eq_add, Nat.reduceEqDiff, List.set_cons_zero, List.set_cons_succ, hG] at hO); clear hG
        have hF := hO; (try simp only [Own, Item.Holds, apartI, CellsAt, Nat.reduceAdd, Nat.zero_add, List.mem_cons, List.not_mem_nil, or_false, forall_eq_or_imp, forall_eq, ne_eq, false_imp_iff, implies_true, and_true] at hF)
        simp [results, Tryd.results9, go_sem, hF]
      · have hz2 : (x == 0) = false := beq_eq_false_iff_ne.2 hz
        go_wp2
        apply own_end hO
        (repeat (first | (with_reducible exact hO) | (with_reducible apply Own.alloc) | (with_reducible apply Own.drew) | ((with_reducible apply Own.set_at); (focus (show _ ≤ _; omega)))))
        have hG := hF; clear hF; clear hO; intro hO
        refine own_ret (v := .agg #[.bool false, .int .i64 xs, .int .i64 xa, .int .i64 xo, .int .i64 xt, .bool false]) hO ?_ rfl (fun hO => ⟨⟨false, xs, xa, xo, xt, false⟩, HX.out, rfl, hO.base⟩)
        clear hO; intro w1 hO
        (try simp only [World.size_alloc1, World.size_drew, Nat.reduceAdd] at hO); (try simp only [upd, updI, List.map_cons, List.map_nil, eq_self, if_true, if_false, reduceIte, Nat.add_eq_left, Nat.left_eq_add, Nat.reduceEqDiff, List.set_cons_zero, List.set_cons_succ, hG] at hO); clear hG
        have hF := hO; (try simp only [Own, Item.Holds, apartI, CellsAt, Nat.reduceAdd, Nat.zero_add, List.mem_cons, List.not_mem_nil, or_false, forall_eq_or_imp, forall_eq, ne_eq, false_imp_iff, implies_true, and_true] at hF)
        simp [results, Tryd.results9, go_sem, hF]
    · go_wp2
      apply own_end hO
      (repeat (first | (with_reducible exact hO) | (with_reducible apply Own.alloc) | (with_reducible apply Own.drew) | ((with_reducible apply Own.set_at); (focus (show _ ≤ _; omega)))))
      have hG := hF; clear hF; clear hO; intro hO
      refine own_ret (v := .agg #[.bool true, .int .i64 xs, .int .i64 xa, .int .i64 xo, .int .i64 xt, .bool false]) hO ?_ rfl (fun hO => ⟨⟨true, xs, xa, xo, xt, false⟩, HX.out, rfl, hO.base⟩)
      clear hO; intro w1 hO
      (try simp only [World.size_alloc1, World.size_drew, Nat.reduceAdd] at hO); (try simp only [upd, updI, List.map_cons, List.map_nil, eq_self, if_true, if_false, reduceIte, Nat.add_eq_left, Nat.left_eq_add, Nat.reduceEqDiff, List.set_cons_zero, List.set_cons_succ, hG] at hO); clear hG
      have hF := hO; (try simp only [Own, Item.Holds, apartI, CellsAt, Nat.reduceAdd, Nat.zero_add, List.mem_cons, List.not_mem_nil, or_false, forall_eq_or_imp, forall_eq, ne_eq, false_imp_iff, implies_true, and_true] at hF)
      simp [results, Tryd.results9, go_sem, hF]
  · go_wp2
    apply own_end hO
    (repeat (first | (with_reducible exact hO) | (with_reducible apply Own.alloc) | (with_reducible apply Own.drew) | ((with_reducible apply Own.set_at); (focus (show _ ≤ _; omega)))))
    have hG := hF; clear hF; clear hO; intro hO
    refine own_ret (v := .agg #[.bool xr, .int .i64 xs, .int .i64 xa, .int .i64 xo, .int .i64 xt, .bool true]) hO ?_ rfl (fun hO => ⟨⟨xr, xs, xa, xo, xt, true⟩, HX.out, rfl, hO.base⟩)
    clear hO; intro w1 hO
    (try simp only [World.size_alloc1, World.size_drew, Nat.reduceAdd] at hO); (try simp only [upd, updI, List.map_cons, List.map_nil, eq_self, if_true, if_false, reduceIte, Nat.add_eq_left, Nat.left_eq_add, Nat.reduceEqDiff, List.set_cons_zero, List.set_cons_succ, hG] at hO); clear hG
    have hF := hO; (try simp only [Own, Item.Holds, apartI, CellsAt, Nat.reduceAdd, Nat.zero_add, List.mem_cons, List.not_mem_nil, or_false, forall_eq_or_imp, forall_eq, ne_eq, false_imp_iff, implies_true, and_true] at hF)
    simp [results, Tryd.results9, go_sem, hF]

theorem str_in {n : Nat} {B : World → Prop} {w : World} {b : Nat} {x : Int} {L : List Item} (us : List ByteArray) (h : Own n B w L) (hm : Item.blk b (us.map Value.string) ∈ L) (hu : ∀ u ∈ us, u.size ≤ 1000) (x0 : 0 ≤ x) (x1 : x < us.length) :
    ∃ u : ByteArray, u.size ≤ 1000 ∧ w.cell? ⟨b, x.toNat, none⟩ = some (.string u) := by
  have hl : x.toNat < us.length := by omega
  have := (h.cells hm).get (j := x.toNat) (v := .string us[x.toNat]) (by rw [List.getElem?_map, List.getElem?_eq_getElem hl]; rfl)
  exact ⟨_, hu _ (List.getElem_mem hl), by simpa using this⟩
theorem ne_one8 {a r : Nat} {xs : List Value} (h1 : a ≠ r) : ∀ x ∈ [Item.blk a xs], x.at? ≠ some r := by
  intro x hx e
  simp at hx
  subst hx
  exact h1 (by simpa [Item.at?] using e)
theorem nt_len' (n : Nt) : (ntB n).size ≤ 9 := by
  cases h : nvB n
  · rw [ntB_no h]; show 0 ≤ 9; omega
  · exact nt_len h
theorem vx_len' {v : List Nt} (hl : v.length ≤ 61) : (vxB v).size ≤ 610 := by
  cases h : voB v
  · rw [vxB_no h]; show 0 ≤ 610; omega
  · rw [vxB_yes h]
    have := vxL_len (vo_all h)
    show (vxL v).toArray.size ≤ 610
    rw [List.size_toArray]; omega

set_option maxHeartbeats 4000000 in
theorem DrawReadNote_any (v : Value) (n : Nat) (w : World) (hn : n ≤ maxLen) (h : BytesB w w.heap.size v n) :
    Calls Tryd.prog 15 #[v] w (DrewT8 w) := by
  go_enter Tryd.func15, Tryd.ntmps15
  go_wp2_with fail
  refine (open_any v n _ hn h).mono ?_
  rintro e w1 ⟨r, hr, rfl, hR, hb⟩
  go_wp2_with fail
  refine (l20Note_any r 0 _ _ hR (by omega) (by omega) (by omega)).mono ?_
  rintro e w2 ⟨x, hx, rfl, hR2, hB2⟩
  have hB : Below w.heap.size w w2 := hB2.below hb hr
  clear hR hB2 hb hx h hn
  go_wp2_with fail
  refine (ntS_any _ _).mono ?_
  rintro e w3 ⟨rfl, hb3⟩
  have hR3 := hR2.below hb3
  have hB3 := btr hB hb3
  have hT := nt_len' x
  clear hR2 hB hb3
  generalize ntB x = T at *
  go_wp2_with fail
  refine (odd_any r _ _ _ hR3 (by omega) (by omega) (by omega)).mono ?_
  rintro e w4 ⟨bo, rfl, hR4, hB4⟩
  have hB5 : Below w.heap.size w w4 := hB4.below hB3 hr
  clear hR3 hB3 hB4
  cases bo with
  | false =>
    go_wp2
    go_ret
    exact ⟨T, by omega, rfl, hB5⟩
  | true =>
    have hO : Own w.heap.size (Below w.heap.size w) w4 [] := ⟨Stab.plain w, hB5⟩
    have hF := True.intro
    have hrl := hR4.lt
    have e1 : (T ++ (⟨#[32]⟩ : ByteArray)).size = T.size + 1 := by rw [ByteArray.size_append]; rfl
    have e2 : (T ++ (⟨#[126]⟩ : ByteArray)).size = T.size + 1 := by rw [ByteArray.size_append]; rfl
    have HU := hid (show ∀ u ∈ ([⟨#[]⟩, ⟨#[67, 52]⟩, ⟨#[67, 52, 47]⟩, ⟨#[67, 52, 47, 48, 49, 50]⟩, ⟨#[114, 47, 49, 50, 126]⟩, ⟨#[67, 52, 47, 49, 50, 126, 126]⟩, ⟨#[47, 49, 50]⟩, T ++ ⟨#[32]⟩, ⟨#[67, 52, 47, 56, 48, 48]⟩, ⟨#[120, 47, 49, 50]⟩, ⟨#[67, 52, 47, 49, 50, 47]⟩, T ++ ⟨#[126]⟩] : List ByteArray), u.size ≤ 1000 by
      intro u hu
      simp only [List.mem_cons, List.not_mem_nil, or_false] at hu
      rcases hu with rfl | rfl | rfl | rfl | rfl | rfl | rfl | rfl | rfl | rfl | rfl | rfl
      all_goals first | (show _ ≤ _; decide) | omega)
    clear hB5
    go_wp2_with fail
    apply own_at hO
    (repeat (first | (with_reducible exact hO) | (with_reducible apply Own.alloc) | (with_reducible apply Own.drew) | ((with_reducible apply Own.set_at); (focus (show _ ≤ _; omega)))))
    intro hO1
    refine (pick_any r _ _ _ (hR4.below (below1 _)) (by omega) (by omega) (by omega)).mono ?_
    rintro e w5 ⟨x, x0, x1, rfl, hR5, hB6⟩
    replace hO := hO1.drawn hB6 hr (ne_one8 (by omega))
    obtain ⟨y, hy, hc⟩ := str_in (x := x) _ hO (by exact List.mem_cons_self) HU.out x0 (by simpa using x1)
    have HB := hid hO.base
    clear hO hO1 hR4 hR5 hB6
    go_wp2
    go_ret
    exact ⟨y, hy, rfl, HB.out⟩

theorem str_gd {n : Nat} {B : World → Prop} {w : World} {b : Nat} {x : Int} {L : List Item} (us : List ByteArray) (h : Own n B w L) (hm : Item.blk b (us.map Value.string) ∈ L) (x0 : 0 ≤ x) (x1 : x < us.length) :
    w.cell? ⟨b, x.toNat, none⟩ = some (.string (us.getD x.toNat ⟨#[]⟩)) := by
  have hl : x.toNat < us.length := by omega
  have := (h.cells hm).get (j := x.toNat) (v := .string us[x.toNat]) (by rw [List.getElem?_map, List.getElem?_eq_getElem hl]; rfl)
  rw [List.getD_eq_getElem?_getD, List.getElem?_eq_getElem hl]
  simpa using this
theorem gd_bd {us : List ByteArray} (h : ∀ u ∈ us, u.size ≤ 1000) (k : Nat) : (us.getD k ⟨#[]⟩).size ≤ 1000 := by
  rw [List.getD_eq_getElem?_getD]
  cases hk : us[k]? with
  | none => show 0 ≤ 1000; omega
  | some u => exact h u (List.mem_of_getElem? hk)
/-- The texts among which DrawReadVoice takes one. -/
abbrev sevenT (T A C : ByteArray) : List ByteArray := [T ++ ⟨#[32]⟩, (⟨#[32]⟩ : ByteArray) ++ T, A, (A ++ ⟨#[32]⟩) ++ C, ⟨#[67, 52, 47, 49, 50, 126]⟩, ⟨#[67, 52, 47, 49, 50, 126, 32, 68, 52, 47, 49, 50]⟩, ⟨#[120]⟩]
theorem seven_in {T A C : ByteArray} (hT : T.size ≤ 610) (hA : A.size ≤ T.size) (hC : A.size + C.size ≤ T.size) : ∀ u ∈ sevenT T A C, u.size ≤ 1000 := by
  intro u hu
  simp only [sevenT, List.mem_cons, List.not_mem_nil, or_false] at hu
  have e1 : (T ++ (⟨#[32]⟩ : ByteArray)).size = T.size + 1 := by rw [ByteArray.size_append]; rfl
  have e2 : ((⟨#[32]⟩ : ByteArray) ++ T).size = 1 + T.size := by rw [ByteArray.size_append]; rfl
  have e3 : ((A ++ (⟨#[32]⟩ : ByteArray)) ++ C).size = A.size + 1 + C.size := by rw [ByteArray.size_append, ByteArray.size_append]; rfl
  rcases hu with rfl | rfl | rfl | rfl | rfl | rfl | rfl
  all_goals first | omega | (show _ ≤ _; decide)

set_option maxRecDepth 8000 in
set_option maxHeartbeats 8000000 in
theorem DrawReadVoice_any (v : Value) (n : Nat) (w : World) (hn : n ≤ maxLen) (h : BytesB w w.heap.size v n) :
    Calls Tryd.prog 23 #[v] w (DrewT8 w) := by
  go_enter Tryd.func23, Tryd.ntmps23
  go_wp2_with fail
  refine (open_any v n _ hn h).mono ?_
  rintro e w1 ⟨r, hr, rfl, hR, hb⟩
  go_wp2_with fail
  refine (l20Voice_any r 0 _ _ hR (by omega) (by omega) (by omega)).mono ?_
  rintro e w2 ⟨u, vs, hv, hl, rfl, ho, hR2, hB2⟩
  have hB : Below w.heap.size w w2 := hB2.below hb hr
  obtain ⟨A1, cp1, hv1⟩ := (SlAt.of_row ho).form
  subst hv1
  have HO := hid ho
  clear hR hB2 hb hv h hn ho
  go_wp2_with fail
  refine (vxS_any _ vs _ (SlAt.of_row HO.out) (by omega)).mono ?_
  rintro e w3 ⟨rfl, hb3⟩
  have hR3 := hR2.below hb3
  have hB3 := btr hB hb3
  have hT := vx_len' hl
  clear hR2 hB hb3 HO hl
  generalize vxB vs = T at *
  obtain ⟨ts, hts⟩ : ∃ ts, T.size = ts := ⟨_, rfl⟩
  have HT := hid hts
  rw [hts] at hT
  go_wp2_with fail
  refine (odd_any r _ _ _ hR3 (by omega) (by omega) (by omega)).mono ?_
  rintro e w4 ⟨bo, rfl, hR4, hB4⟩
  have hB5 : Below w.heap.size w w4 := hB4.below hB3 hr
  clear hR3 hB3 hB4
  cases bo with
  | false =>
    go_wp2
    go_ret
    exact ⟨T, by rw [HT.out]; omega, rfl, hB5⟩
  | true =>
    have hcs : (ts : Int) + 1 < 256 ∨ 256 ≤ (ts : Int) + 1 := by omega
    rcases hcs with hcs | hcs
    all_goals
      go_wp2_with fail
      refine (pick_any r _ _ _ hR4 (by omega) (by omega) (by omega)).mono ?_
      rintro e w5 ⟨x, x0, x1, rfl, hR5, hB6⟩
      have x2 : x ≤ ts := by omega
      have HBW := hid (hB6.below hB5 hr)
      have hr5 := hR5.lt
      obtain ⟨A, hA⟩ : ∃ A, T.extract 0 x.toNat = A := ⟨_, rfl⟩
      obtain ⟨C, hC⟩ : ∃ C, T.extract x.toNat T.size = C := ⟨_, rfl⟩
      have sA : A.size = x.toNat := by rw [← hA, ByteArray.size_extract, HT.out]; omega
      have sC : C.size = ts - x.toNat := by rw [← hC, ByteArray.size_extract, HT.out]; omega
      have hs1 : ∀ W, (Instr.slice 9 (.string T) none (some (.int .i64 x)) none).run Tryd.prog W = .ok (.string A) W := fun W => by
        rw [run_slice_string_h W 9 T Tryd.underlying9 .i64 x x0 (by rw [HT.out]; exact x2), hA]
      have hs2 : ∀ W, (Instr.slice 9 (.string T) (some (.int .i64 x)) none none).run Tryd.prog W = .ok (.string C) W := fun W => by
        rw [run_slice_string_l W 9 T Tryd.underlying9 .i64 x x0 (by rw [HT.out]; exact x2), hC]
      have k1 : ∀ W, (Op.stringOp .add T ⟨#[32]⟩).run Tryd.prog W = .ok (.string (T ++ ⟨#[32]⟩)) W := fun W => run_string_add_sum W _ _ (by show T.size + 1 ≤ _; have := HT.out; omega)
      have k2 : ∀ W, (Op.stringOp .add ⟨#[32]⟩ T).run Tryd.prog W = .ok (.string (⟨#[32]⟩ ++ T)) W := fun W => run_string_add_sum W _ _ (by show 1 + T.size ≤ _; have := HT.out; omega)
      have k3 : ∀ W, (Op.stringOp .add A ⟨#[32]⟩).run Tryd.prog W = .ok (.string (A ++ ⟨#[32]⟩)) W := fun W => run_string_add_sum W _ _ (by show A.size + 1 ≤ _; omega)
      have k4 : ∀ W, (Op.stringOp .add (A ++ ⟨#[32]⟩) C).run Tryd.prog W = .ok (.string ((A ++ ⟨#[32]⟩) ++ C)) W := fun W => run_string_add_sum W _ _ (by rw [ByteArray.size_append]; show A.size + 1 + C.size ≤ _; omega)
      have HU := hid (seven_in (T := T) (A := A) (C := C) (by rw [HT.out]; exact hT) (by rw [HT.out]; omega) (by rw [HT.out]; omega))
      have hO : Own w5.heap.size (ButR r w5) w5 [] := ⟨Stab.but hr5, ButR.refl _ _⟩
      have hF := True.intro
      have hX : Rd w5 r (0 + 510 + 0) := hR5.mono (by omega)
      clear hR4 hR5 hB5 hB6 hA hC sA sC x1 hcs
      go_wp2_with fail
      apply own_code hO
      (repeat (first | (with_reducible exact hO) | (with_reducible apply Own.alloc) | (with_reducible apply Own.drew) | ((with_reducible apply Own.set_at); (focus (show _ ≤ _; omega)))))
      have hG := hF; clear hF; clear hO; intro hO
      (try simp only [World.size_alloc1, World.size_drew, Nat.reduceAdd] at hO); (try simp only [upd, updI, List.map_cons, List.map_nil, eq_self, if_true, if_false, reduceIte, Nat.add_eq_left, Nat.left_eq_add, Nat.reduceEqDiff, List.set_cons_zero, List.set_cons_succ, hG] at hO); clear hG
      refine region_own (X := fun W => Rd W r (0 + 510 + 0)) [] (by kernel_rfl) (hO) (hX) (by first | exact XStab.true | exact XStab.rd | exact XStab.rdIf) ?_
      clear hO
      refine Sim.takeP (i := 0) (d := some 19) (v := ?_) rfl rfl (by kernel_rfl) (by kernel_rfl) (by kernel_rfl) (fun _ _ _ h => h) (by first | exact XStab.true | exact XStab.rd | exact XStab.rdIf) ?_ ?_
      rotate_left
      · first | refine Or.inl ⟨by rfl, fun w => ?_⟩ | (refine Or.inr ⟨by rfl, ?_⟩; with_reducible rfl)
        first | done | (go_simp; all_goals with_reducible rfl)
      try simp only [Act.put, List.setIfInBounds_toArray, List.set_cons_zero, List.set_cons_succ]
      refine Sim.takeP (i := 1) (d := some 20) (v := ?_) rfl rfl (by kernel_rfl) (by kernel_rfl) (by kernel_rfl) (fun _ _ _ h => h) (by first | exact XStab.true | exact XStab.rd | exact XStab.rdIf) ?_ ?_
      rotate_left
      · first | refine Or.inl ⟨by rfl, fun w => ?_⟩ | (refine Or.inr ⟨by rfl, ?_⟩; with_reducible rfl)
        first | done | (go_simp; all_goals with_reducible rfl)
      try simp only [Act.put, List.setIfInBounds_toArray, List.set_cons_zero, List.set_cons_succ]
      refine Sim.takeP (i := 2) (d := some 21) (v := ?_) rfl rfl (by kernel_rfl) (by kernel_rfl) (by kernel_rfl) (fun _ _ _ h => h) (by first | exact XStab.true | exact XStab.rd | exact XStab.rdIf) ?_ ?_
      rotate_left
      · first | refine Or.inl ⟨by rfl, fun w => ?_⟩ | (refine Or.inr ⟨by rfl, ?_⟩; with_reducible rfl)
        first | done | (go_simp; all_goals with_reducible rfl)
      try simp only [Act.put, List.setIfInBounds_toArray, List.set_cons_zero, List.set_cons_succ]
      refine Sim.takeP (i := 3) (d := some 22) (v := ?_) rfl rfl (by kernel_rfl) (by kernel_rfl) (by kernel_rfl) (fun _ _ _ h => h) (by first | exact XStab.true | exact XStab.rd | exact XStab.rdIf) ?_ ?_
      rotate_left
      · first | refine Or.inl ⟨by rfl, fun w => ?_⟩ | (refine Or.inr ⟨by rfl, ?_⟩; with_reducible rfl)
        first | done | (go_simp; all_goals with_reducible rfl)
      try simp only [Act.put, List.setIfInBounds_toArray, List.set_cons_zero, List.set_cons_succ]
      refine Sim.takeP (i := 4) (d := some 23) (v := ?_) rfl rfl (by kernel_rfl) (by kernel_rfl) (by kernel_rfl) (fun _ _ _ h => h) (by first | exact XStab.true | exact XStab.rd | exact XStab.rdIf) ?_ ?_
      rotate_left
      · first | refine Or.inl ⟨by rfl, fun w => ?_⟩ | (refine Or.inr ⟨by rfl, ?_⟩; with_reducible rfl)
        first | done | (go_simp; all_goals with_reducible rfl)
      try simp only [Act.put, List.setIfInBounds_toArray, List.set_cons_zero, List.set_cons_succ]
      refine Sim.takeP (i := 5) (d := some 24) (v := ?_) rfl rfl (by kernel_rfl) (by kernel_rfl) (by kernel_rfl) (fun _ _ _ h => h) (by first | exact XStab.true | exact XStab.rd | exact XStab.rdIf) ?_ ?_
      rotate_left
      · first | refine Or.inl ⟨by rfl, fun w => ?_⟩ | (refine Or.inr ⟨by rfl, ?_⟩; with_reducible rfl)
        first | done | (go_simp; all_goals with_reducible rfl)
      try simp only [Act.put, List.setIfInBounds_toArray, List.set_cons_zero, List.set_cons_succ]
      refine Sim.takeP (i := 6) (d := some 25) (v := ?_) rfl rfl (by kernel_rfl) (by kernel_rfl) (by kernel_rfl) (fun _ _ _ h => h) (by first | exact XStab.true | exact XStab.rd | exact XStab.rdIf) ?_ ?_
      rotate_left
      · first | refine Or.inl ⟨by rfl, fun w => ?_⟩ | (refine Or.inr ⟨by rfl, ?_⟩; with_reducible rfl)
        first | done | (go_simp; all_goals with_reducible rfl)
      try simp only [Act.put, List.setIfInBounds_toArray, List.set_cons_zero, List.set_cons_succ]
      refine Sim.takeP (i := 7) (d := some 26) (v := ?_) rfl rfl (by kernel_rfl) (by kernel_rfl) (by kernel_rfl) (fun _ _ _ h => h) (by first | exact XStab.true | exact XStab.rd | exact XStab.rdIf) ?_ ?_
      rotate_left
      · first | refine Or.inl ⟨by rfl, fun w => ?_⟩ | (refine Or.inr ⟨by rfl, ?_⟩; with_reducible rfl)
        first | done | (go_simp; all_goals with_reducible rfl)
      try simp only [Act.put, List.setIfInBounds_toArray, List.set_cons_zero, List.set_cons_succ]
      refine Sim.takeP (i := 8) (d := some 27) (v := ?_) rfl rfl (by kernel_rfl) (by kernel_rfl) (by kernel_rfl) (fun _ _ _ h => h) (by first | exact XStab.true | exact XStab.rd | exact XStab.rdIf) ?_ ?_
      rotate_left
      · first | refine Or.inl ⟨by rfl, fun w => ?_⟩ | (refine Or.inr ⟨by rfl, ?_⟩; with_reducible rfl)
        first | done | (go_simp; all_goals with_reducible rfl)
      try simp only [Act.put, List.setIfInBounds_toArray, List.set_cons_zero, List.set_cons_succ]
      refine Sim.takeP (i := 9) (d := some 28) (v := ?_) rfl rfl (by kernel_rfl) (by kernel_rfl) (by kernel_rfl) (fun _ _ _ h => h) (by first | exact XStab.true | exact XStab.rd | exact XStab.rdIf) ?_ ?_
      rotate_left
      · first | refine Or.inl ⟨by rfl, fun w => ?_⟩ | (refine Or.inr ⟨by rfl, ?_⟩; with_reducible rfl)
        first | done | (go_simp; all_goals with_reducible rfl)
      try simp only [Act.put, List.setIfInBounds_toArray, List.set_cons_zero, List.set_cons_succ]
      refine Sim.takeP (i := 10) (d := some 29) (v := ?_) rfl rfl (by kernel_rfl) (by kernel_rfl) (by kernel_rfl) (fun _ _ _ h => h) (by first | exact XStab.true | exact XStab.rd | exact XStab.rdIf) ?_ ?_
      rotate_left
      · first | refine Or.inl ⟨by rfl, fun w => ?_⟩ | (refine Or.inr ⟨by rfl, ?_⟩; with_reducible rfl)
        first | done | (go_simp; all_goals with_reducible rfl)
      try simp only [Act.put, List.setIfInBounds_toArray, List.set_cons_zero, List.set_cons_succ]
      refine Sim.takeP (i := 11) (d := some 30) (v := ?_) rfl rfl (by kernel_rfl) (by kernel_rfl) (by kernel_rfl) (fun _ _ _ h => h) (by first | exact XStab.true | exact XStab.rd | exact XStab.rdIf) ?_ ?_
      rotate_left
      · first | refine Or.inl ⟨by rfl, fun w => ?_⟩ | (refine Or.inr ⟨by rfl, ?_⟩; with_reducible rfl)
        first | done | (go_simp; all_goals with_reducible rfl)
      try simp only [Act.put, List.setIfInBounds_toArray, List.set_cons_zero, List.set_cons_succ]
      refine Sim.takeP (i := 12) (d := some 31) (v := ?_) rfl rfl (by kernel_rfl) (by kernel_rfl) (by kernel_rfl) (fun _ _ _ h => h) (by first | exact XStab.true | exact XStab.rd | exact XStab.rdIf) ?_ ?_
      rotate_left
      · first | refine Or.inl ⟨by rfl, fun w => ?_⟩ | (refine Or.inr ⟨by rfl, ?_⟩; with_reducible rfl)
        first | done | (go_simp; all_goals with_reducible rfl)
      try simp only [Act.put, List.setIfInBounds_toArray, List.set_cons_zero, List.set_cons_succ]
      refine Sim.takeP (i := 13) (d := some 32) (v := ?_) rfl rfl (by kernel_rfl) (by kernel_rfl) (by kernel_rfl) (fun _ _ _ h => h) (by first | exact XStab.true | exact XStab.rd | exact XStab.rdIf) ?_ ?_
      rotate_left
      · first | refine Or.inl ⟨by rfl, fun w => ?_⟩ | (refine Or.inr ⟨by rfl, ?_⟩; with_reducible rfl)
        first | done | (go_simp; all_goals with_reducible rfl)
      try simp only [Act.put, List.setIfInBounds_toArray, List.set_cons_zero, List.set_cons_succ]
      refine Sim.takeP (i := 14) (d := some 33) (v := ?_) rfl rfl (by kernel_rfl) (by kernel_rfl) (by kernel_rfl) (fun _ _ _ h => h) (by first | exact XStab.true | exact XStab.rd | exact XStab.rdIf) ?_ ?_
      rotate_left
      · first | refine Or.inl ⟨by rfl, fun w => ?_⟩ | (refine Or.inr ⟨by rfl, ?_⟩; with_reducible rfl)
        first | done | (go_simp; all_goals with_reducible rfl)
      try simp only [Act.put, List.setIfInBounds_toArray, List.set_cons_zero, List.set_cons_succ]
      refine Sim.takeP (i := 16) (d := some 35) (v := ?_) rfl rfl (by kernel_rfl) (by kernel_rfl) (by kernel_rfl) (fun _ _ _ h => h) (by first | exact XStab.true | exact XStab.rd | exact XStab.rdIf) ?_ ?_
      rotate_left
      · first | refine Or.inl ⟨by rfl, fun w => ?_⟩ | (refine Or.inr ⟨by rfl, ?_⟩; with_reducible rfl)
        first | done | (go_simp; all_goals with_reducible rfl)
      try simp only [Act.put, List.setIfInBounds_toArray, List.set_cons_zero, List.set_cons_succ]
      refine Sim.many (rs := [15, 17]) (by kernel_rfl) (by decide) ?_
      refine AllS.cons (oi := { dst := some 34, op := Op.buildSlice 64 7 #[(0, Operand.tmp 20), (1, Operand.tmp 22), (2, Operand.tmp 25), (3, Operand.tmp 33), (4, Operand.const (Value.string { data := #[67, 52, 47, 49, 50, 126] })), (5, Operand.const (Value.string { data := #[67, 52, 47, 49, 50, 126, 32, 68, 52, 47, 49, 50] })), (6, Operand.const (Value.string { data := #[120] }))], type := 64, pos := "l20_draw.go:479", after := #[{ on := 1, ground := Ground.data }, { on := 3, ground := Ground.data }, { on := 6, ground := Ground.data }, { on := 14, ground := Ground.data }], guard := none }) rfl (by rfl) (fun w0 hO hX K hK => ?_) ?_
      rotate_left
      refine AllS.cons (oi := { dst := some 36, op := Op.call { callee := Callee.value (Operand.func 32), args := #[Operand.tmp 35, Operand.const (Value.int IntKind.i64 7)], argTypes := #[51, 3] }, type := 3, pos := "l20_draw.go:479", after := #[{ on := 16, ground := Ground.data }], guard := none }) rfl (by rfl) (fun w0 hO hX K hK => ?_) ?_
      rotate_left
      exact AllS.nil
      rotate_right 2
      have hF := hO; (try simp only [Own, Item.Holds, apartI, CellsAt, Nat.reduceAdd, Nat.zero_add, List.mem_cons, List.not_mem_nil, or_false, forall_eq_or_imp, forall_eq, ne_eq, false_imp_iff, implies_true, and_true] at hF)
      go_simp
      apply hK _ _ _ (fun W => Rd W r (0 + 510 + 0))
      (repeat (first | (with_reducible exact hO) | (with_reducible apply Own.alloc) | (with_reducible apply Own.drew) | ((with_reducible apply Own.set_at); (focus (show _ ≤ _; omega)))))
      · first | exact trivial | exact hX | exact hX.below (below1 _) | exact RdIf.gone | exact hX.keep ((Below.refl _ _).setCell (by first | omega | (dsimp only; omega)) _)
      · exact (by first | exact XStab.true | exact XStab.rd | exact XStab.rdIf)
      · first | exact fun _ _ h => h.2 | exact fun _ _ h => h | exact fun h => absurd h (by decide)
      try simp only [upd, updI, List.map_cons, List.map_nil, eq_self, if_true, if_false, reduceIte, Nat.add_eq_left, Nat.left_eq_add, Nat.reduceEqDiff, List.set_cons_zero, List.set_cons_succ, hF]
      clear hK K hF hO
      try simp only [Act.put, List.setIfInBounds_toArray, List.set_cons_zero, List.set_cons_succ]
      refine Sim.one' (i := 17) (oi := { dst := some 36, op := Op.call { callee := Callee.value (Operand.func 32), args := #[Operand.tmp 35, Operand.const (Value.int IntKind.i64 7)], argTypes := #[51, 3] }, type := 3, pos := "l20_draw.go:479", after := #[{ on := 16, ground := Ground.data }], guard := none }) (by kernel_rfl) rfl (by rfl) (fun w0 hO hX K hK => ?_)
      have hF := hO; (try simp only [Own, Item.Holds, apartI, CellsAt, Nat.reduceAdd, Nat.zero_add, List.mem_cons, List.not_mem_nil, or_false, forall_eq_or_imp, forall_eq, ne_eq, false_imp_iff, implies_true, and_true] at hF)
      go_simp
      refine (pick_any r (0 + 510 + 0) _ _ hX (by omega) (by decide) (by decide)).mono ?_
      rintro e wa ⟨pk0, lo0, hi0, rfl, hR4, hB4⟩
      obtain ⟨y0, hy0⟩ : ∃ y, (sevenT T A C).getD pk0.toNat ⟨#[]⟩ = y := ⟨_, rfl⟩
      apply hK _ _ _ (fun W => Rd W r (0 + 510 + 1))
      · exact Own.but hr5 (Stab.but hr5) (hO.base.trans hB4) hB4 hO
      · exact hR4.mono (by omega)
      · exact XStab.rd
      · exact fun _ _ h => h
      clear hR4 hB4
      clear hK K hF hO
      try simp only [Act.put, List.setIfInBounds_toArray, List.set_cons_zero, List.set_cons_succ]
      refine Sim.takeP (i := 18) (d := some 37) (v := ?_) rfl rfl (by kernel_rfl) (by kernel_rfl) (by kernel_rfl) (fun _ _ _ h => h) (by first | exact XStab.true | exact XStab.rd | exact XStab.rdIf) ?_ ?_
      rotate_left
      · first | refine Or.inl ⟨by rfl, fun w => ?_⟩ | (refine Or.inr ⟨by rfl, ?_⟩; with_reducible rfl)
        first | done | (go_simp; all_goals with_reducible rfl)
      try simp only [Act.put, List.setIfInBounds_toArray, List.set_cons_zero, List.set_cons_succ]
      refine Sim.take (i := 19) (d := some 38) (v := ?_) rfl rfl (by kernel_rfl) (by kernel_rfl) (by kernel_rfl) (by kernel_rfl) (fun _ _ _ h => h) (by first | exact XStab.true | exact XStab.rd | exact XStab.rdIf) ?_ ?_
      rotate_left
      · first | refine Or.inl ⟨by rfl, fun w hO => ?_⟩ | (refine Or.inr ⟨by rfl, ?_⟩; with_reducible rfl)
        first | done | (have hF := hO; (try simp only [Own, Item.Holds, apartI, CellsAt, Nat.reduceAdd, Nat.zero_add, List.mem_cons, List.not_mem_nil, or_false, forall_eq_or_imp, forall_eq, ne_eq, false_imp_iff, implies_true, and_true] at hF); ((try (have hc1 := str_gd (x := pk0) (sevenT T A C) hO (by first | exact List.mem_cons_self | exact List.mem_cons_of_mem _ List.mem_cons_self) lo0 (by simpa using hi0); rw [hy0] at hc1))); refine Out.same ?_; go_simp; all_goals with_reducible rfl)
      try simp only [Act.put, List.setIfInBounds_toArray, List.set_cons_zero, List.set_cons_succ]
      refine Sim.takeP (i := 20) (d := some 2) (v := ?_) rfl rfl (by kernel_rfl) (by kernel_rfl) (by kernel_rfl) (fun _ _ _ h => h) (by first | exact XStab.true | exact XStab.rd | exact XStab.rdIf) ?_ ?_
      rotate_left
      · first | refine Or.inl ⟨by rfl, fun w => ?_⟩ | (refine Or.inr ⟨by rfl, ?_⟩; with_reducible rfl)
        first | done | (go_simp; all_goals with_reducible rfl)
      try simp only [Act.put, List.setIfInBounds_toArray, List.set_cons_zero, List.set_cons_succ]
      refine Sim.done (by kernel_rfl) (fun w1 hO hX => ?_) _
      (try simp only [World.size_alloc1, World.size_drew, Nat.reduceAdd] at hO); (try simp only [upd, updI, List.map_cons, List.map_nil, eq_self, if_true, if_false, reduceIte, Nat.add_eq_left, Nat.left_eq_add, Nat.reduceEqDiff, List.set_cons_zero, List.set_cons_succ] at hO)
      have hF := hO; (try simp only [Own, Item.Holds, apartI, CellsAt, Nat.reduceAdd, Nat.zero_add, List.mem_cons, List.not_mem_nil, or_false, forall_eq_or_imp, forall_eq, ne_eq, false_imp_iff, implies_true, and_true] at hF)
      rotate_left 1
      have hF := hO; (try simp only [Own, Item.Holds, apartI, CellsAt, Nat.reduceAdd, Nat.zero_add, List.mem_cons, List.not_mem_nil, or_false, forall_eq_or_imp, forall_eq, ne_eq, false_imp_iff, implies_true, and_true] at hF)
      go_simp
      refine (pick_any r (0 + 510 + 0) _ _ hX (by omega) (by decide) (by decide)).mono ?_
      rintro e wa ⟨pk0, lo0, hi0, rfl, hR4, hB4⟩
      obtain ⟨y0, hy0⟩ : ∃ y, (sevenT T A C).getD pk0.toNat ⟨#[]⟩ = y := ⟨_, rfl⟩
      apply hK _ _ _ (fun W => Rd W r (0 + 510 + 1))
      · exact Own.but hr5 (Stab.but hr5) (hO.base.trans hB4) hB4 hO
      · exact hR4.mono (by omega)
      · exact XStab.rd
      · exact fun _ _ h => h
      clear hR4 hB4
      clear hK K hF hO
      try simp only [Act.put, List.setIfInBounds_toArray, List.set_cons_zero, List.set_cons_succ]
      refine Sim.one' (i := 15) (oi := { dst := some 34, op := Op.buildSlice 64 7 #[(0, Operand.tmp 20), (1, Operand.tmp 22), (2, Operand.tmp 25), (3, Operand.tmp 33), (4, Operand.const (Value.string { data := #[67, 52, 47, 49, 50, 126] })), (5, Operand.const (Value.string { data := #[67, 52, 47, 49, 50, 126, 32, 68, 52, 47, 49, 50] })), (6, Operand.const (Value.string { data := #[120] }))], type := 64, pos := "l20_draw.go:479", after := #[{ on := 1, ground := Ground.data }, { on := 3, ground := Ground.data }, { on := 6, ground := Ground.data }, { on := 14, ground := Ground.data }], guard := none }) (by kernel_rfl) rfl (by rfl) (fun w0 hO hX K hK => ?_)
      have hF := hO; (try simp only [Own, Item.Holds, apartI, CellsAt, Nat.reduceAdd, Nat.zero_add, List.mem_cons, List.not_mem_nil, or_false, forall_eq_or_imp, forall_eq, ne_eq, false_imp_iff, implies_true, and_true] at hF)
      go_simp
      apply hK _ _ _ (fun W => Rd W r (0 + 510 + 1))
      (repeat (first | (with_reducible exact hO) | (with_reducible apply Own.alloc) | (with_reducible apply Own.drew) | ((with_reducible apply Own.set_at); (focus (show _ ≤ _; omega)))))
      · first | exact trivial | exact hX | exact hX.below (below1 _) | exact RdIf.gone | exact hX.keep ((Below.refl _ _).setCell (by first | omega | (dsimp only; omega)) _)
      · exact (by first | exact XStab.true | exact XStab.rd | exact XStab.rdIf)
      · first | exact fun _ _ h => h.2 | exact fun _ _ h => h | exact fun h => absurd h (by decide)
      try simp only [upd, updI, List.map_cons, List.map_nil, eq_self, if_true, if_false, reduceIte, Nat.add_eq_left, Nat.left_eq_add, Nat.reduceEqDiff, List.set_cons_zero, List.set_cons_succ, hF]
      clear hK K hF hO
      try simp only [Act.put, List.setIfInBounds_toArray, List.set_cons_zero, List.set_cons_succ]
      refine Sim.takeP (i := 18) (d := some 37) (v := ?_) rfl rfl (by kernel_rfl) (by kernel_rfl) (by kernel_rfl) (fun _ _ _ h => h) (by first | exact XStab.true | exact XStab.rd | exact XStab.rdIf) ?_ ?_
      rotate_left
      · first | refine Or.inl ⟨by rfl, fun w => ?_⟩ | (refine Or.inr ⟨by rfl, ?_⟩; with_reducible rfl)
        first | done | (go_simp; all_goals with_reducible rfl)
      try simp only [Act.put, List.setIfInBounds_toArray, List.set_cons_zero, List.set_cons_succ]
      refine Sim.take (i := 19) (d := some 38) (v := ?_) rfl rfl (by kernel_rfl) (by kernel_rfl) (by kernel_rfl) (by kernel_rfl) (fun _ _ _ h => h) (by first | exact XStab.true | exact XStab.rd | exact XStab.rdIf) ?_ ?_
      rotate_left
      · first | refine Or.inl ⟨by rfl, fun w hO => ?_⟩ | (refine Or.inr ⟨by rfl, ?_⟩; with_reducible rfl)
        first | done | (have hF := hO; (try simp only [Own, Item.Holds, apartI, CellsAt, Nat.reduceAdd, Nat.zero_add, List.mem_cons, List.not_mem_nil, or_false, forall_eq_or_imp, forall_eq, ne_eq, false_imp_iff, implies_true, and_true] at hF); ((try (have hc1 := str_gd (x := pk0) (sevenT T A C) hO (by first | exact List.mem_cons_self | exact List.mem_cons_of_mem _ List.mem_cons_self) lo0 (by simpa using hi0); rw [hy0] at hc1))); refine Out.same ?_; go_simp; all_goals with_reducible rfl)
      try simp only [Act.put, List.setIfInBounds_toArray, List.set_cons_zero, List.set_cons_succ]
      refine Sim.takeP (i := 20) (d := some 2) (v := ?_) rfl rfl (by kernel_rfl) (by kernel_rfl) (by kernel_rfl) (fun _ _ _ h => h) (by first | exact XStab.true | exact XStab.rd | exact XStab.rdIf) ?_ ?_
      rotate_left
      · first | refine Or.inl ⟨by rfl, fun w => ?_⟩ | (refine Or.inr ⟨by rfl, ?_⟩; with_reducible rfl)
        first | done | (go_simp; all_goals with_reducible rfl)
      try simp only [Act.put, List.setIfInBounds_toArray, List.set_cons_zero, List.set_cons_succ]
      refine Sim.done (by kernel_rfl) (fun w1 hO hX => ?_) _
      (try simp only [World.size_alloc1, World.size_drew, Nat.reduceAdd] at hO); (try simp only [upd, updI, List.map_cons, List.map_nil, eq_self, if_true, if_false, reduceIte, Nat.add_eq_left, Nat.left_eq_add, Nat.reduceEqDiff, List.set_cons_zero, List.set_cons_succ] at hO)
      have hF := hO; (try simp only [Own, Item.Holds, apartI, CellsAt, Nat.reduceAdd, Nat.zero_add, List.mem_cons, List.not_mem_nil, or_false, forall_eq_or_imp, forall_eq, ne_eq, false_imp_iff, implies_true, and_true] at hF)
      rotate_left 1
      all_goals
        have HY := hid (show y0.size ≤ 1000 by rw [← hy0]; exact gd_bd HU.out _)
        have HB := hid (hO.base.below HBW.out hr)
        clear hO hF hX hy0
        go_wp2
        go_ret
        exact ⟨y0, HY.out, rfl, HB.out⟩
end Go.Proofs.YtefbphmlhghojaaDoor
