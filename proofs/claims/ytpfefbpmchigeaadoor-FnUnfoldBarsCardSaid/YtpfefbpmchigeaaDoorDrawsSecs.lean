/- l20Sections: sections are drawn; the functions that draw for a law of chapter 7. -/
import Derived.Test.YtpfefbpmchigeaaDoorDrawsSec
import Derived.Test.YtpfefbpmchigeaaDoorWalksDrawP
import Derived.Test.YtpfefbpmchigeaaDoorWalks7U
namespace Go.Proofs.YtpfefbpmchigeaaDoor
set_option linter.unusedSimpArgs false
set_option linter.unusedVariables false
open Go.RowKit

def sec01 : Sec := ⟨0, 1, []⟩
theorem sec01_ok : seOk sec01 := by unfold seOk sec01; simp
theorem EsOf.len {l : List Sec} {es : List (Value × List Value)} (h : EsOf l es) : es.length = l.length := h.1

set_option maxRecDepth 20000 in
set_option maxHeartbeats 2000000 in
theorem l20Sections_any (r : Nat) (P n : Int) (w : World) (h : Rd w r P) (hP : P ≤ 700000) (n0 : 0 ≤ n) (n1 : n ≤ 1000000) :
    Calls Tryd.prog 32 #[.pointer (some ⟨r, 0, none⟩), .int .i64 n] w (DrewSs r P w) := by
  have hr0 := h.lt
  have hO := Own.startD h
  have hF := True.intro
  obtain ⟨i0, hi, hz0, hz1, hz2⟩ := info_parts infoS9
  clear h
  go_enter Tryd.func32, Tryd.ntmps32
  go_wp2_with fail
  replace hO := hO.allocRow (e := 25) (cur := #[]) (k := 0) (cap := 0) 3 (by omega) (by unfold maxLen; omega) rfl
  (go_at_call 35; apply own_at hO; (repeat (first | (with_reducible exact hO) | (with_reducible apply Own.alloc) | (with_reducible apply Own.drew) | ((with_reducible apply Own.set_at); (focus (show _ ≤ _; omega))))); have hG := hF; clear hF; clear hO; intro hO; refine own_pick (k := 4) hO hr0 (by omega) (by omega) (by omega) ?_; clear hO; intro x w1 x0 x1 hO; (try simp only [World.size_alloc1, World.size_drew, Nat.reduceAdd] at hO); (try simp only [upd, updI, List.map_cons, List.map_nil, eq_self, if_true, if_false, reduceIte, Nat.add_eq_left, Nat.left_eq_add, Nat.reduceEqDiff, List.set_cons_zero, List.set_cons_succ, hG] at hO); clear hG; have hF := hO; (try simp only [Own, Item.Holds, apartI, CellsAt, Nat.reduceAdd, Nat.zero_add, List.mem_cons, List.not_mem_nil, or_false, forall_eq_or_imp, forall_eq, ne_eq, false_imp_iff, implies_true, and_true] at hF))
  go_wp2_with fail
  clear hF
  go_loopw [5, 6] (fun u t wr => ∃ (m : Int) (l : List Sec) (es : List (Value × List Value)), (0 ≤ m ∧ m ≤ 3) ∧ t = .int .i64 m ∧ ((l.length : Int) + m ≤ 3) ∧ Hid (∀ s ∈ l, seOk s) ∧ Hid (EsOf l es) ∧ Own w.heap.size (Bd r w (P + 1 + 14 * (3 - m))) wr (.row 25 3 u l.length (scC l (es.map (·.1))) :: rwI es)) (fun _ t _ => (intOf t).toNat)
  case atStart => exact ⟨x, [], [], by omega, rfl, by simp; omega, (fun s hs => by cases hs), EsOf.nil, hO.mono hr0 (by omega)⟩
  case round =>
    clear hO x0 x1
    obtain ⟨m, l, es, hm, rfl, hl, hS, hE, hO⟩ := hrel
    have hF := True.intro
    by_cases hm0 : m = 0
    · subst hm0
      replace hO := hO.mono (Q := P + 43) hr0 (by omega)
      have l3 : l.length ≤ 3 := by omega
      have hF := hO; (try simp only [Own, Item.Holds, apartI, CellsAt, Nat.reduceAdd, Nat.zero_add, List.mem_cons, List.not_mem_nil, or_false, forall_eq_or_imp, forall_eq, ne_eq, false_imp_iff, implies_true, and_true] at hF)
      go_wp2_with fail
      (go_at_call 36; apply own_at hO; (repeat (first | (with_reducible exact hO) | (with_reducible apply Own.alloc) | (with_reducible apply Own.drew) | ((with_reducible apply Own.set_at); (focus (show _ ≤ _; omega))))); have hG := hF; clear hF; clear hO; intro hO; refine own_odd hO hr0 (by omega) (by omega) (by omega) ?_; clear hO; intro x w1 hO; (try simp only [World.size_alloc1, World.size_drew, Nat.reduceAdd] at hO); (try simp only [upd, updI, List.map_cons, List.map_nil, eq_self, if_true, if_false, reduceIte, Nat.add_eq_left, Nat.left_eq_add, Nat.reduceEqDiff, List.set_cons_zero, List.set_cons_succ, hG] at hO); clear hG; have hF := hO; (try simp only [Own, Item.Holds, apartI, CellsAt, Nat.reduceAdd, Nat.zero_add, List.mem_cons, List.not_mem_nil, or_false, forall_eq_or_imp, forall_eq, ne_eq, false_imp_iff, implies_true, and_true] at hF))
      cases x
      · go_wp2_with fail
        go_ret
        exact ⟨_, l, es, hS.out, by omega, rfl, hE.out, hO.mono hr0 (by omega)⟩
      · go_wp2_with fail
        (go_at_call 35; apply own_at hO; (repeat (first | (with_reducible exact hO) | (with_reducible apply Own.alloc) | (with_reducible apply Own.drew) | ((with_reducible apply Own.set_at); (focus (show _ ≤ _; omega))))); have hG := hF; clear hF; clear hO; intro hO; refine own_pick (k := 2) hO hr0 (by omega) (by omega) (by omega) ?_; clear hO; intro x w1 x0 x1 hO; (try simp only [World.size_alloc1, World.size_drew, Nat.reduceAdd] at hO); (try simp only [upd, updI, List.map_cons, List.map_nil, eq_self, if_true, if_false, reduceIte, Nat.add_eq_left, Nat.left_eq_add, Nat.reduceEqDiff, List.set_cons_zero, List.set_cons_succ, hG] at hO); clear hG; have hF := hO; (try simp only [Own, Item.Holds, apartI, CellsAt, Nat.reduceAdd, Nat.zero_add, List.mem_cons, List.not_mem_nil, or_false, forall_eq_or_imp, forall_eq, ne_eq, false_imp_iff, implies_true, and_true] at hF))
        clear hF hl
        by_cases hx0 : x = 0
        · subst hx0
          clear x0 x1
          go_wp2_with (first | (go_at_call 26; refine own_section hO hr0 (by omega) (by omega) (by omega) ?_; clear hO; intro s A c w1 hs hO; have HSE := hid hs; clear hs) | (at_builtin; have hO2 := hO.alloc (t := 25) (vs := [.int .i64 s.b, .int .i64 s.t, .slice A s.e.length c]); clear hO; have hO := hO2.perm (List.Perm.cons _ (List.Perm.swap _ _ _)); clear hO2; refine wpList_append_item rfl _ _ 30 rfl 25 i0 (.agg #[.int .i64 0, .int .i64 0, .slice none 0 0]) 3 40 Tryd.underlying30 hi hz0 hz1 hz2 rfl (by decide) rfl rfl hO rfl one3s (by unfold maxLen; omega) (by omega) ?_; clear hO; intro v' w2 hO _))
          go_ret
          exact ⟨_, l ++ [s], es ++ [(.slice A s.e.length c, inC s.e)], all_se hS.out HSE.out, by rw [List.length_append]; simp; omega, rfl, hE.out.snoc s _, by
            rw [List.length_append, ← scC_up hE.out]
            exact (hO.perm (rwI_up es A c s.e _)).mono hr0 (by omega)⟩
        · obtain rfl : x = 1 := by omega
          clear x0 x1 hx0
          go_wp2_with fail
          go_loopw [5] (fun u wr => ∃ (l : List Sec) (es : List (Value × List Value)), l.length ≤ 9 ∧ Hid (∀ s ∈ l, seOk s) ∧ Hid (EsOf l es) ∧ Own w.heap.size (Bd r w (P + 43 + 1 + 1)) wr (.row 25 3 u l.length (scC l (es.map (·.1))) :: rwI es)) (fun u _ => 9 - lenS u)
          case atStart => exact ⟨l, es, by omega, hS, hE, hO⟩
          case round =>
            clear hO hS hE l3 es l
            obtain ⟨l, es, l9, hS, hE, hO⟩ := hrel
            obtain ⟨A1, cp1, hv1⟩ := (SlAt.of_row hO.1.1).form
            subst hv1
            by_cases hfull : l.length ≤ 8
            · have hf2 : (l.length : Int) ≤ 8 := by omega
              go_wp2_with (at_builtin; have hO2 := hO.alloc (t := 25) (vs := [.int .i64 0, .int .i64 1, .slice none 0 0]); clear hO; have hO := hO2; clear hO2; refine wpList_append_item rfl _ _ 30 rfl 25 i0 (.agg #[.int .i64 0, .int .i64 0, .slice none 0 0]) 3 40 Tryd.underlying30 hi hz0 hz1 hz2 rfl (by decide) rfl rfl hO rfl one3s (by unfold maxLen; omega) (by omega) ?_; clear hO; intro v' w2 hO _)
              obtain ⟨A2, cp2, hv2⟩ := (SlAt.of_row hO.1.1).form
              subst hv2
              go_roundw
              case rel => exact ⟨l ++ [sec01], es ++ [(.slice none sec01.e.length 0, inC sec01.e)], by rw [List.length_append]; simp; omega, all_se hS.out sec01_ok, hE.out.snoc sec01 _, by
                rw [List.length_append, ← scC_up hE.out]
                exact ((hO.nilRow 3 1).perm (List.Perm.swap _ _ _)).perm (rwI_up es none 0 sec01.e _)⟩
              case measure => simp [lenS]; omega
            · have hf2 : 8 < (l.length : Int) := by omega
              go_wp2_with fail
              go_ret
              exact ⟨_, l, es, hS.out, by omega, rfl, hE.out, hO.mono hr0 (by omega)⟩
    · have hmp : 0 < m := by omega
      have wm : IntKind.i64.wrap (m - 1) = m - 1 := IntWalk.i64_in _ (by omega)
      clear hm0
      go_wp2_with (first | (go_at_call 26; refine own_section hO hr0 (by omega) (by omega) (by omega) ?_; clear hO; intro s A c w1 hs hO; have HSE := hid hs; clear hs) | (at_builtin; have hO2 := hO.alloc (t := 25) (vs := [.int .i64 s.b, .int .i64 s.t, .slice A s.e.length c]); clear hO; have hO := hO2.perm (List.Perm.cons _ (List.Perm.swap _ _ _)); clear hO2; refine wpList_append_item rfl _ _ 30 rfl 25 i0 (.agg #[.int .i64 0, .int .i64 0, .slice none 0 0]) 3 40 Tryd.underlying30 hi hz0 hz1 hz2 rfl (by decide) rfl rfl hO rfl one3s (by unfold maxLen; omega) (by omega) ?_; clear hO; intro v' w2 hO _))
      go_roundw
      case rel => exact ⟨m - 1, l ++ [s], es ++ [(.slice A s.e.length c, inC s.e)], by omega, rfl, by rw [List.length_append]; simp; omega, all_se hS.out HSE.out, hE.out.snoc s _, by
        rw [List.length_append, ← scC_up hE.out]
        exact (hO.perm (rwI_up es A c s.e _)).mono hr0 (by omega)⟩
      case measure => simp [intOf]; omega

/-- What drawing a section for a law leaves; sections; sections and texts. -/
def DrewX (w : World) (e : Ending) (w' : World) : Prop :=
  ∃ (s : Sec) (A : Option Addr) (c : Nat), seOk s ∧ e = .returned (.agg #[.int .i64 s.b, .int .i64 s.t, .slice A s.e.length c]) ∧ IntsAt w' (.slice A s.e.length c) s.e ∧ Below w.heap.size w w'
def DrewS (w : World) (e : Ending) (w' : World) : Prop :=
  ∃ (v : Value) (l : List Sec), (∀ s ∈ l, seOk s) ∧ l.length ≤ 9 ∧ e = .returned v ∧ SecsR w' v l ∧ Below w.heap.size w w'
def DrewU (w : World) (e : Ending) (w' : World) : Prop :=
  ∃ (v u : Value) (l : List Sec) (t : List ByteArray), (∀ s ∈ l, seOk s) ∧ l.length ≤ 9 ∧ t.length ≤ 481 ∧ e = .returned (.tuple #[v, u]) ∧ SecsR w' v l ∧ StrsAt w' u t ∧ Below w.heap.size w w'

theorem Own.joinRow7 {n b : Nat} {B : World → Prop} {w : World} {L : List Item} {e : TypeId} {size : Nat} {v : Value} {k : Nat} {xs : List Value} (h : Own n B w L) (hr : w.ownsRow b e size v k xs) (hnb : n ≤ b) (hb : ∀ x ∈ L, ∀ g, x.at? = some g → g < b) : Own n B w (.row e size v k xs :: L) :=
  ⟨⟨ownsRow_mono hr hnb, fun x hx => .of fun g hg e => by
    have h1 := hb x hx g hg
    have h2 := (World.ownsRow.lt hr g e).1
    omega⟩, h⟩
theorem SecsR.of_own0 {n : Nat} {B : World → Prop} {w : World} {v : Value} {l : List Sec} {es : List (Value × List Value)} (h : Own n B w (.row 25 3 v l.length (scC l (es.map (·.1))) :: rwI es)) (he : EsOf l es) : SecsR w v l :=
  SecsR.of_own (L := []) (by rw [List.append_nil]; exact h) he

set_option maxHeartbeats 1000000 in
theorem DrawSectionValid_any (v : Value) (n : Nat) (w : World) (hn : n ≤ maxLen) (h : BytesB w w.heap.size v n) :
    Calls Tryd.prog 9 #[v] w (DrewX w) := by
  have hO := Own.start w
  have hF := True.intro
  go_enter Tryd.func9, Tryd.ntmps9
  go_wp2_with fail
  apply own_at hO
  (repeat (first | (with_reducible exact hO) | (with_reducible apply Own.alloc) | (with_reducible apply Own.drew) | ((with_reducible apply Own.set_at); (focus (show _ ≤ _; omega)))))
  intro hO1
  refine (open_any v n _ hn (h.alloc _)).mono ?_
  rintro e w1 ⟨r, hr, rfl, hR, hb⟩
  have hne := hO1.ne_of hr
  have hr0 := Nat.le_trans hO1.low hr
  replace hO := hO1.below hb
  have hlt := hO.lt
  have hwl : w.heap.size ≤ w1.heap.size := hO.low
  clear hO1 hb h hn
  go_wp2_with fail
  refine (l20Section_any r 0 _ _ hR (by omega) (by omega) (by omega)).mono ?_
  rintro e w2 ⟨s, A, c, hx, rfl, hrow, hR2, hB2⟩
  replace hO := (hO.drawn hB2 hr0 hne).joinRow7 hrow hwl (fun x hx g hg => (hlt x hx g hg).2)
  have HX := hid hx
  clear hR hR2 hB2 hne hx hlt hwl hrow
  have hG := hF
  (try simp only [World.size_alloc1, World.size_drew, Nat.reduceAdd] at hO); (try simp only [upd, updI, List.map_cons, List.map_nil, eq_self, if_true, if_false, reduceIte, Nat.add_eq_left, Nat.left_eq_add, Nat.reduceEqDiff, List.set_cons_zero, List.set_cons_succ, hG] at hO); clear hG
  clear hF
  have hF := hO; (try simp only [Own, Item.Holds, apartI, CellsAt, Nat.reduceAdd, Nat.zero_add, List.mem_cons, List.not_mem_nil, or_false, forall_eq_or_imp, forall_eq, ne_eq, false_imp_iff, implies_true, and_true] at hF)
  go_wp2
  apply own_end hO
  (repeat (first | (with_reducible exact hO) | (with_reducible apply Own.alloc) | (with_reducible apply Own.drew) | ((with_reducible apply Own.set_at); (focus (show _ ≤ _; omega)))))
  have hG := hF; clear hF; clear hO; intro hO
  refine own_ret (v := .agg #[.int .i64 s.b, .int .i64 s.t, .slice A s.e.length c]) hO ?_ rfl (fun hO => by (try simp only [World.size_alloc1, World.size_drew, Nat.reduceAdd] at hO); (try simp only [upd, updI, List.map_cons, List.map_nil, eq_self, if_true, if_false, reduceIte, Nat.add_eq_left, Nat.left_eq_add, Nat.reduceEqDiff, List.set_cons_zero, List.set_cons_succ, hG] at hO); clear hG; exact ⟨s, A, c, HX.out, rfl, Or.inr (SlAt.of_row hO.1.1), hO.base⟩)
  clear hO; intro w1 hO
  (try simp only [World.size_alloc1, World.size_drew, Nat.reduceAdd] at hO); (try simp only [upd, updI, List.map_cons, List.map_nil, eq_self, if_true, if_false, reduceIte, Nat.add_eq_left, Nat.left_eq_add, Nat.reduceEqDiff, List.set_cons_zero, List.set_cons_succ, hG] at hO); clear hG
  have hF := hO; (try simp only [Own, Item.Holds, apartI, CellsAt, Nat.reduceAdd, Nat.zero_add, List.mem_cons, List.not_mem_nil, or_false, forall_eq_or_imp, forall_eq, ne_eq, false_imp_iff, implies_true, and_true] at hF)
  simp [results, Tryd.results9, go_sem, hF]

set_option maxHeartbeats 1000000 in
theorem DrawSectionsValid_any (v : Value) (n : Nat) (w : World) (hn : n ≤ maxLen) (h : BytesB w w.heap.size v n) :
    Calls Tryd.prog 13 #[v] w (DrewS w) := by
  go_enter Tryd.func13, Tryd.ntmps13
  go_wp2_with fail
  refine (open_any v n _ hn h).mono ?_
  rintro e w1 ⟨r, hr, rfl, hR, hb⟩
  go_wp2_with fail
  refine (l20Sections_any r 0 _ _ hR (by omega) (by omega) (by omega)).mono ?_
  rintro e w2 ⟨u, l, es, hs, hl, rfl, hE, hO⟩
  have HS := hid (SecsR.of_own0 hO hE)
  have HV := hid hs
  have HB := hid (hO.base.1.below hb hr)
  clear hR hb h hn hO hE hs
  go_wp2
  go_ret
  exact ⟨u, l, HV.out, hl, rfl, HS.out, HB.out⟩

set_option maxHeartbeats 1000000 in
theorem DrawWrittenBars_any (v : Value) (n : Nat) (w : World) (hn : n ≤ maxLen) (h : BytesB w w.heap.size v n) :
    Calls Tryd.prog 16 #[v] w (DrewS w) := by
  go_enter Tryd.func16, Tryd.ntmps16
  go_wp2_with fail
  refine (open_any v n _ hn h).mono ?_
  rintro e w1 ⟨r, hr, rfl, hR, hb⟩
  go_wp2_with fail
  refine (l20Sections_any r 0 _ _ hR (by omega) (by omega) (by omega)).mono ?_
  rintro e w2 ⟨u, l, es, hs, hl, rfl, hE, hO⟩
  have HS := hid (SecsR.of_own0 hO hE)
  have HV := hid hs
  have HB := hid (hO.base.1.below hb hr)
  clear hR hb h hn hO hE hs
  go_wp2
  go_ret
  exact ⟨u, l, HV.out, hl, rfl, HS.out, HB.out⟩

set_option maxHeartbeats 1000000 in
theorem DrawPlayedOrder_any (v : Value) (n : Nat) (w : World) (hn : n ≤ maxLen) (h : BytesB w w.heap.size v n) :
    Calls Tryd.prog 20 #[v] w (DrewS w) := by
  go_enter Tryd.func20, Tryd.ntmps20
  go_wp2_with fail
  refine (open_any v n _ hn h).mono ?_
  rintro e w1 ⟨r, hr, rfl, hR, hb⟩
  go_wp2_with fail
  refine (l20Sections_any r 0 _ _ hR (by omega) (by omega) (by omega)).mono ?_
  rintro e w2 ⟨u, l, es, hs, hl, rfl, hE, hO⟩
  have HS := hid (SecsR.of_own0 hO hE)
  have HV := hid hs
  have HB := hid (hO.base.1.below hb hr)
  clear hR hb h hn hO hE hs
  go_wp2
  go_ret
  exact ⟨u, l, HV.out, hl, rfl, HS.out, HB.out⟩

theorem str_at {n : Nat} {B : World → Prop} {w : World} {b : Nat} {x : Int} {L : List Item} (us : List ByteArray) (h : Own n B w L) (hm : Item.blk b (us.map Value.string) ∈ L) (x0 : 0 ≤ x) (x1 : x < us.length) :
    ∃ u : ByteArray, w.cell? ⟨b, x.toNat, none⟩ = some (.string u) := by
  have hl : x.toNat < us.length := by omega
  have := (h.cells hm).get (j := x.toNat) (v := .string us[x.toNat]) (by rw [List.getElem?_map, List.getElem?_eq_getElem hl]; rfl)
  exact ⟨_, by simpa using this⟩
theorem wr_bd {l : List Sec} : -1 ≤ wrZ l ∧ wrZ l ≤ 480 := by
  unfold wrZ
  split
  · rename_i h
    have := po_len h
    omega
  · omega

set_option maxRecDepth 20000 in
set_option maxHeartbeats 2000000 in
theorem DrawUnfoldBars_any (v : Value) (n : Nat) (w : World) (hn : n ≤ maxLen) (h : BytesB w w.heap.size v n) :
    Calls Tryd.prog 23 #[v] w (DrewU w) := by
  obtain ⟨i0, hi, hz0, hz1, hz2⟩ := info_parts infoT7
  go_enter Tryd.func23, Tryd.ntmps23
  go_wp2_with fail
  refine (open_any v n _ hn h).mono ?_
  rintro e w1 ⟨r, hr, rfl, hR, hb⟩
  have hr0 := hR.lt
  go_wp2_with fail
  refine (l20Sections_any r 0 _ _ hR (by omega) (by omega) (by omega)).mono ?_
  rintro e w2 ⟨u, l, es, hs, hl, rfl, hE, hO⟩
  have HV := hid hs
  have HE := hid hE
  have HB := hid (And.intro hb hr)
  have hn9 : l.length ≤ 1048576 := by omega
  have hle : ∀ s ∈ l, s.e.length ≤ 1048576 := fun s h => by have := (hs s h).2.2.1; omega
  have HW := hid (fun v W (h : SecsAt W v l) => wrS_any v l W h hn9 hle)
  have zb := wr_bd (l := l)
  obtain ⟨z, hz⟩ : ∃ z, wrZ l = z := ⟨_, rfl⟩
  rw [hz] at HW zb
  have hF := True.intro
  clear hR hb hr h hn hE hs hn9 hle hz
  go_wp2_with fail
  replace hO := hO.allocRow (e := 9) (cur := #[]) (k := 0) (cap := 0) 1 (by omega) (by unfold maxLen; omega) rfl
  go_loopw [6, 7] (fun o t wr => ∃ (k : Nat) (ts : List ByteArray), t = .int .i64 k ∧ ts.length = k ∧ k ≤ 480 ∧ Own w1.heap.size (Bd r w1 (80 + (k : Int))) wr (.row 9 1 o k (stC ts) :: .row 25 3 u l.length (scC l (es.map (·.1))) :: rwI es)) (fun _ t _ => 481 - (intOf t).toNat)
  case atStart => exact ⟨0, [], rfl, rfl, by omega, hO.mono hr0 (by omega)⟩
  case round =>
    clear hO
    obtain ⟨k, ts, rfl, htl, hk, hO⟩ := hrel
    have HT := hid htl
    clear htl
    have hF := hO; (try simp only [Own, Item.Holds, apartI, CellsAt, Nat.reduceAdd, Nat.zero_add, List.mem_cons, List.not_mem_nil, or_false, forall_eq_or_imp, forall_eq, ne_eq, false_imp_iff, implies_true, and_true] at hF)
    by_cases hend : (k : Int) < z
    · go_wp2_with (go_at_call 18; apply own_at hO; (repeat (first | (with_reducible exact hO) | (with_reducible apply Own.alloc) | (with_reducible apply Own.drew) | ((with_reducible apply Own.set_at); (focus (show _ ≤ _; omega))))); have hG := hF; clear hF; clear hO; intro hO; refine own_call hO (fun hB => HW.out _ _ (SecsR.of_own0 hO.2 HE.out).at) ?_; clear hO; intro w1 hO; (try simp only [World.size_alloc1, World.size_drew, Nat.reduceAdd] at hO); (try simp only [upd, updI, List.map_cons, List.map_nil, eq_self, if_true, if_false, reduceIte, Nat.add_eq_left, Nat.left_eq_add, Nat.reduceEqDiff, List.set_cons_zero, List.set_cons_succ, hG] at hO); clear hG; have hF := hO; (try simp only [Own, Item.Holds, apartI, CellsAt, Nat.reduceAdd, Nat.zero_add, List.mem_cons, List.not_mem_nil, or_false, forall_eq_or_imp, forall_eq, ne_eq, false_imp_iff, implies_true, and_true] at hF))
      (go_at_call 35; apply own_at hO; (repeat (first | (with_reducible exact hO) | (with_reducible apply Own.alloc) | (with_reducible apply Own.drew) | ((with_reducible apply Own.set_at); (focus (show _ ≤ _; omega))))); have hG := hF; clear hF; clear hO; intro hO; refine own_pick (k := 4) hO hr0 (by omega) (by omega) (by omega) ?_; clear hO; intro x w1 x0 x1 hO; (try simp only [World.size_alloc1, World.size_drew, Nat.reduceAdd] at hO); (try simp only [upd, updI, List.map_cons, List.map_nil, eq_self, if_true, if_false, reduceIte, Nat.add_eq_left, Nat.left_eq_add, Nat.reduceEqDiff, List.set_cons_zero, List.set_cons_succ, hG] at hO); clear hG; have hF := hO; (try simp only [Own, Item.Holds, apartI, CellsAt, Nat.reduceAdd, Nat.zero_add, List.mem_cons, List.not_mem_nil, or_false, forall_eq_or_imp, forall_eq, ne_eq, false_imp_iff, implies_true, and_true] at hF); obtain ⟨s, hc⟩ := str_at (x := x) [_, _, _, _] hO List.mem_cons_self x0 (by simpa using x1); replace hO := hO.drop)
      go_wp2_with (at_builtin; apply own_list hO; (repeat (first | (with_reducible exact hO) | (with_reducible apply Own.alloc) | (with_reducible apply Own.drew) | ((with_reducible apply Own.set_at); (focus (show _ ≤ _; omega))))); have hG := hF; clear hF; clear hO; intro hO; (try simp only [World.size_alloc1, World.size_drew, Nat.reduceAdd] at hO); (try simp only [upd, updI, List.map_cons, List.map_nil, eq_self, if_true, if_false, reduceIte, Nat.add_eq_left, Nat.left_eq_add, Nat.reduceEqDiff, List.set_cons_zero, List.set_cons_succ, hG] at hO); clear hG; (try simp only [World.size_setCell] at hO); refine wpList_append_item rfl _ _ 37 rfl 9 i0 (.string ByteArray.empty) 1 16 Tryd.underlying37 hi hz0 hz1 hz2 rfl (by decide) rfl rfl hO rfl one1s (by unfold maxLen; omega) (by omega) ?_; clear hO; intro v' w2 hO _; have hF := hO; (try simp only [Own, Item.Holds, apartI, CellsAt, Nat.reduceAdd, Nat.zero_add, List.mem_cons, List.not_mem_nil, or_false, forall_eq_or_imp, forall_eq, ne_eq, false_imp_iff, implies_true, and_true] at hF))
      go_roundw
      case rel => exact ⟨k + 1, ts ++ [s], by go_num, by rw [List.length_append, HT.out]; rfl, by omega, by rw [← stC_up]; exact hO.mono hr0 (by omega)⟩
      case measure => simp [intOf]; omega
    · go_wp2_with (go_at_call 18; apply own_at hO; (repeat (first | (with_reducible exact hO) | (with_reducible apply Own.alloc) | (with_reducible apply Own.drew) | ((with_reducible apply Own.set_at); (focus (show _ ≤ _; omega))))); have hG := hF; clear hF; clear hO; intro hO; refine own_call hO (fun hB => HW.out _ _ (SecsR.of_own0 hO.2 HE.out).at) ?_; clear hO; intro w1 hO; (try simp only [World.size_alloc1, World.size_drew, Nat.reduceAdd] at hO); (try simp only [upd, updI, List.map_cons, List.map_nil, eq_self, if_true, if_false, reduceIte, Nat.add_eq_left, Nat.left_eq_add, Nat.reduceEqDiff, List.set_cons_zero, List.set_cons_succ, hG] at hO); clear hG; have hF := hO; (try simp only [Own, Item.Holds, apartI, CellsAt, Nat.reduceAdd, Nat.zero_add, List.mem_cons, List.not_mem_nil, or_false, forall_eq_or_imp, forall_eq, ne_eq, false_imp_iff, implies_true, and_true] at hF))
      (go_at_call 36; apply own_at hO; (repeat (first | (with_reducible exact hO) | (with_reducible apply Own.alloc) | (with_reducible apply Own.drew) | ((with_reducible apply Own.set_at); (focus (show _ ≤ _; omega))))); have hG := hF; clear hF; clear hO; intro hO; refine own_odd hO hr0 (by omega) (by omega) (by omega) ?_; clear hO; intro x w1 hO; (try simp only [World.size_alloc1, World.size_drew, Nat.reduceAdd] at hO); (try simp only [upd, updI, List.map_cons, List.map_nil, eq_self, if_true, if_false, reduceIte, Nat.add_eq_left, Nat.left_eq_add, Nat.reduceEqDiff, List.set_cons_zero, List.set_cons_succ, hG] at hO); clear hG; have hF := hO; (try simp only [Own, Item.Holds, apartI, CellsAt, Nat.reduceAdd, Nat.zero_add, List.mem_cons, List.not_mem_nil, or_false, forall_eq_or_imp, forall_eq, ne_eq, false_imp_iff, implies_true, and_true] at hF))
      cases x
      · go_wp2_with fail
        go_ret2
        exact ⟨u, _, l, ts, HV.out, hl, by rw [HT.out]; omega, rfl, .of_own0 hO.2 HE.out, Or.inr (by rw [HT.out]; exact SlAt.of_row hO.1.1), hO.base.1.below HB.out.1 HB.out.2⟩
      · go_wp2_with (at_builtin; apply own_list hO; (repeat (first | (with_reducible exact hO) | (with_reducible apply Own.alloc) | (with_reducible apply Own.drew) | ((with_reducible apply Own.set_at); (focus (show _ ≤ _; omega))))); have hG := hF; clear hF; clear hO; intro hO; (try simp only [World.size_alloc1, World.size_drew, Nat.reduceAdd] at hO); (try simp only [upd, updI, List.map_cons, List.map_nil, eq_self, if_true, if_false, reduceIte, Nat.add_eq_left, Nat.left_eq_add, Nat.reduceEqDiff, List.set_cons_zero, List.set_cons_succ, hG] at hO); clear hG; (try simp only [World.size_setCell] at hO); refine wpList_append_item rfl _ _ 37 rfl 9 i0 (.string ByteArray.empty) 1 16 Tryd.underlying37 hi hz0 hz1 hz2 rfl (by decide) rfl rfl hO rfl one1s (by unfold maxLen; omega) (by omega) ?_; clear hO; intro v' w2 hO _; have hF := hO; (try simp only [Own, Item.Holds, apartI, CellsAt, Nat.reduceAdd, Nat.zero_add, List.mem_cons, List.not_mem_nil, or_false, forall_eq_or_imp, forall_eq, ne_eq, false_imp_iff, implies_true, and_true] at hF))
        go_ret2
        exact ⟨u, _, l, ts ++ [⟨#[100]⟩], HV.out, hl, by rw [List.length_append, HT.out]; simp; omega, rfl, .of_own0 hO.2 HE.out, Or.inr (by rw [List.length_append, HT.out, ← stC_up]; exact SlAt.of_row hO.1.1), hO.base.1.below HB.out.1 HB.out.2⟩
end Go.Proofs.YtpfefbpmchigeaaDoor
