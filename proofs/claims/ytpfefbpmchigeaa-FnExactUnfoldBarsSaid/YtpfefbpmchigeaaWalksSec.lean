/- The laws' own functions over sections: their size; copies; equal ones are found equal. -/
import Derived.Test.YtpfefbpmchigeaaWalks7P
import Derived.Test.YtpfefbpmchigeaaSecsOwn
namespace Go.Proofs.Ytpfefbpmchigeaa
set_option linter.unusedSimpArgs false
set_option linter.unusedVariables false
open Go.RowKit

theorem IntsAt.len {w : World} {va : Value} {l : List Int} (h : IntsAt w va l) : (l.length : Int) ≤ 9223372036854775807 := by
  rcases h with ⟨rfl, _⟩ | h
  · simp
  · obtain ⟨_, _, _, nb, _⟩ := h.open
    exact nb
theorem IntsAt.open' {w : World} {va : Value} {l : List Int} (h : IntsAt w va l) : ∃ A c, va = .slice A l.length c ∧ (0 < l.length → ∃ b off, A = some ⟨b, off, none⟩ ∧ l.length ≤ c ∧ c ≤ 9223372036854775807 ∧ b < w.heap.size ∧ ∀ (j : Nat) (x : Int), l[j]? = some x → w.cell? ⟨b, off + j, none⟩ = .some (.int .i64 x)) := by
  rcases h with ⟨rfl, a, c, rfl⟩ | h
  · exact ⟨a, c, rfl, fun h => by simp at h⟩
  · obtain ⟨A, c, rfl, nb, hA⟩ := h.open
    refine ⟨A, c, rfl, fun hp => ?_⟩
    obtain ⟨b, off, rfl, h1, h2, h3⟩ := hA hp
    exact ⟨b, off, rfl, h1, h2, h3, fun j x hj => h.cellAt (by rw [List.getElem?_map, hj]; rfl)⟩
theorem SecsAt.len {w : World} {va : Value} {l : List Sec} (h : SecsAt w va l) : (l.length : Int) ≤ 9223372036854775807 ∧ ∀ s ∈ l, (s.e.length : Int) ≤ 9223372036854775807 := by
  rcases h with ⟨rfl, _⟩ | ⟨evs, h1, h2, h3⟩
  · exact ⟨by simp, fun s hs => by cases hs⟩
  · obtain ⟨_, _, _, nb, _⟩ := h2.open
    refine ⟨nb, fun s hs => ?_⟩
    obtain ⟨k, hk, e⟩ := List.mem_iff_getElem.1 hs
    have e1 : l[k]? = some s := by rw [List.getElem?_eq_getElem hk, e]
    exact (h3 k s _ e1 (List.getElem?_eq_getElem (by omega))).len

/-! ### Their size -/

/-- what is left behind numbers. -/
def szE (n m : Int) : Int := if n - m < 0 then -1 else n - m
/-- .. behind the endings of sections; behind the sections. -/
def szG : Int → List Sec → Int
  | n, [] => n
  | n, s :: l => if n - (s.e.length : Int) < 0 then -1 else szG (n - s.e.length) l
def szZ (n : Int) (l : List Sec) : Int := if n - (l.length : Int) < 0 then -1 else szG (n - l.length) l
theorem szG_sign : ∀ {l : List Sec} {n : Int}, 0 ≤ n → szG n l = -1 ∨ (0 ≤ szG n l ∧ szG n l ≤ n)
  | [], n, h => Or.inr ⟨h, Int.le_refl _⟩
  | s :: l, n, h => by
    simp only [szG]
    split
    · exact Or.inl rfl
    · rcases szG_sign (l := l) (n := n - s.e.length) (by omega) with h | h
      · exact Or.inl h
      · exact Or.inr ⟨h.1, by omega⟩
/-- how many endings there are. -/
def enN : List Sec → Nat
  | [] => 0
  | s :: l => s.e.length + enN l
theorem szG_sum : ∀ {l : List Sec} {n : Int}, 0 ≤ szG n l → 0 ≤ n → (enN l : Int) ≤ n ∧ ∀ s ∈ l, (s.e.length : Int) ≤ n
  | [], n, _, h => ⟨h, fun s hs => by cases hs⟩
  | s :: l, n, h, h0 => by
    simp only [szG] at h
    split at h
    · omega
    · obtain ⟨h1, h2⟩ := szG_sum h (by omega)
      refine ⟨by simp only [enN]; push_cast; omega, fun z hz => ?_⟩
      rcases List.mem_cons.1 hz with rfl | hz
      · omega
      · have := h2 z hz; omega
/-- what is known of sections that are few enough. -/
theorem szZ_ok {l : List Sec} {n : Int} (h : 0 ≤ szZ n l) (_ : 0 ≤ n) : (l.length : Int) ≤ n ∧ (enN l : Int) ≤ n ∧ ∀ s ∈ l, (s.e.length : Int) ≤ n := by
  unfold szZ at h
  split at h
  · omega
  · obtain ⟨h1, h2⟩ := szG_sum h (by omega)
    refine ⟨by omega, by omega, fun s hs => ?_⟩
    have := h2 s hs
    omega
theorem szZ_sign {l : List Sec} {n : Int} (h : 0 ≤ n) : szZ n l = -1 ∨ (0 ≤ szZ n l ∧ szZ n l ≤ n) := by
  unfold szZ
  split
  · exact Or.inl rfl
  · rcases szG_sign (l := l) (n := n - l.length) (by omega) with h | h
    · exact Or.inl h
    · exact Or.inr ⟨h.1, by omega⟩

set_option maxHeartbeats 1000000 in
theorem szI_at (va : Value) (l : List Int) (n z : Int) (w : World) (h : IntsAt w va l) (h0 : 0 ≤ n) (h1 : n ≤ 1000000000) (hz : szE n l.length = z) :
    Calls Try.prog 33 #[va, .int .i64 n] w fun e w' => e = .returned (.int .i64 z) ∧ w = w' := by
  have hl := h.len
  obtain ⟨A, c, rfl, _⟩ := h.open'
  obtain ⟨m, hm⟩ : ∃ m, l.length = m := ⟨_, rfl⟩
  rw [hm] at hl hz
  rw [hm]
  clear h hm
  by_cases hn : n - (m : Int) < 0
  · have HE := hid (show z = -1 by rw [← hz]; unfold szE; rw [if_pos hn])
    clear hz
    go_enter Try.func33, Try.ntmps33
    go_wp2
    go_ret
    exact ⟨ret_int HE.out.symm, rfl⟩
  · have HE := hid (show z = n - m by rw [← hz]; unfold szE; rw [if_neg hn])
    clear hz
    go_enter Try.func33, Try.ntmps33
    go_wp2
    go_ret
    exact ⟨ret_int HE.out.symm, rfl⟩

set_option maxHeartbeats 1000000 in
theorem szSec_at (s : Sec) (ev : Value) (n z : Int) (w : World) (h : IntsAt w ev s.e) (h0 : 0 ≤ n) (h1 : n ≤ 1000000000) (hz : szE n s.e.length = z) :
    Calls Try.prog 8 #[.agg #[.int .i64 s.b, .int .i64 s.t, ev], .int .i64 n] w fun e w' => e = .returned (.int .i64 z) ∧ Below w.heap.size w w' := by
  have hO := Own.start w
  have hF := True.intro
  have HI := hid (fun W (hW : Below w.heap.size w W) => szI_at ev s.e n z W (h.below hW) h0 h1 hz)
  obtain ⟨A, c, rfl, _⟩ := h.open'
  have hzs : z = -1 ∨ 0 ≤ z := by
    rw [← hz]
    unfold szE
    split
    · exact Or.inl rfl
    · exact Or.inr (by omega)
  clear h hz
  rcases hzs with rfl | hzs
  · go_enter Try.func8, Try.ntmps8
    go_wp2_with (go_at_call 33; refine (HI.out _ (by first | exact Below.refl _ _ | exact below1 _)).mono ?_; rintro e w1 ⟨rfl, rfl⟩)
    go_ret
    exact ⟨rfl, Own.base (by (repeat (first | (with_reducible exact hO) | (with_reducible apply Own.alloc) | (with_reducible apply Own.drew) | ((with_reducible apply Own.set_at); (focus (show _ ≤ _; omega))))))⟩
  · have hz2 : ¬ z < 0 := by omega
    go_enter Try.func8, Try.ntmps8
    go_wp2_with (go_at_call 33; refine (HI.out _ (by first | exact Below.refl _ _ | exact below1 _)).mono ?_; rintro e w1 ⟨rfl, rfl⟩)
    go_ret
    exact ⟨rfl, Own.base (by (repeat (first | (with_reducible exact hO) | (with_reducible apply Own.alloc) | (with_reducible apply Own.drew) | ((with_reducible apply Own.set_at); (focus (show _ ≤ _; omega))))))⟩

set_option maxHeartbeats 4000000 in
theorem szSecs_at (va : Value) (l : List Sec) (n z : Int) (w : World) (h : SecsAt w va l) (h0 : 0 ≤ n) (h1 : n ≤ 1000000000) (hz : szZ n l = z) :
    Calls Try.prog 13 #[va, .int .i64 n] w fun e w' => e = .returned (.int .i64 z) ∧ Below w.heap.size w w' := by
  have hO := Own.start w
  have hF := True.intro
  obtain ⟨hl, _⟩ := h.len
  obtain ⟨A, c, rfl, hA⟩ := h.open
  obtain ⟨m, hm⟩ : ∃ m, l.length = m := ⟨_, rfl⟩
  have HM := hid hm
  rw [hm] at hl hA
  rw [hm]
  by_cases hn : n - (m : Int) < 0
  · have HE := hid (show z = -1 by rw [← hz]; unfold szZ; rw [hm, if_pos hn])
    clear hz h hA hm
    go_enter Try.func13, Try.ntmps13
    go_wp2
    go_ret
    exact ⟨ret_int HE.out.symm, Below.refl _ _⟩
  · have HE := hid (show z = szG (n - m) l by rw [← hz]; unfold szZ; rw [hm, if_neg hn])
    clear hz h hm
    go_enter Try.func13, Try.ntmps13
    go_wp2_with fail
    go_loopw [1, 5] (fun s t wr => ∃ (k : Nat) (r : Int), k ≤ m ∧ t = .int .i64 k ∧ s = .int .i64 r ∧ (0 ≤ r ∧ r ≤ 1000000000) ∧ Hid (z = szG r (l.drop k)) ∧ Own w.heap.size (Below w.heap.size w) wr []) (fun _ t _ => m - (intOf t).toNat)
    case atStart => exact ⟨0, n - m, by omega, rfl, rfl, by omega, HE, hO⟩
    case round =>
      clear hO hF
      obtain ⟨k, r, hk, rfl, rfl, hr, HZ, hO⟩ := hrel
      have hF := True.intro
      by_cases hend : k = m
      · subst hend
        have e1 : r = z := by rw [HZ.out, show l.drop k = [] by rw [List.drop_eq_nil_iff]; have := HM.out; omega]; rfl
        rw [e1]
        go_wp2_with fail
        go_ret
        exact ⟨rfl, hO.base⟩
      · have hlt : k < m := by omega
        have hlt2 : (k : Int) < m := by omega
        obtain ⟨b', off, rfl, hc1, hc2, hb, hcell⟩ := hA (by omega)
        obtain ⟨s, hs⟩ : ∃ s, l[k]? = some s := ⟨_, List.getElem?_eq_getElem (by have := HM.out; omega)⟩
        obtain ⟨ev, hev, d0, d1, d2⟩ := hcell k s hs
        have g0 := ((bcell hO.base).1 b' (off + k * 3) hb).trans d0
        have g1 := ((bcell hO.base).1 b' (off + k * 3 + 1) hb).trans d1
        have g2 := ((bcell hO.base).1 b' (off + k * 3 + 2) hb).trans d2
        obtain ⟨y, hy⟩ : ∃ y, szE r s.e.length = y := ⟨_, rfl⟩
        have HS := hid (fun W (hW : Below w.heap.size w W) => szSec_at s ev r y W (hev.below hW) hr.1 hr.2 hy)
        have HD := hid (show l.drop k = s :: l.drop (k + 1) by
          have hkl := (List.getElem?_eq_some_iff.1 hs).1
          rw [List.drop_eq_getElem_cons hkl]; congr 1
          rw [List.getElem?_eq_getElem hkl] at hs; exact Option.some.inj hs)
        by_cases hneg : r - (s.e.length : Int) < 0
        · obtain rfl : y = -1 := by rw [← hy]; unfold szE; rw [if_pos hneg]
          have HE3 := hid (show z = -1 by rw [HZ.out, HD.out]; simp only [szG]; rw [if_pos hneg])
          clear hend hs hcell hev d0 d1 d2 hy hneg
          go_wp2_with (go_at_call 8; apply own_at hO; (repeat (first | (with_reducible exact hO) | (with_reducible apply Own.alloc) | (with_reducible apply Own.drew) | ((with_reducible apply Own.set_at); (focus (show _ ≤ _; omega))))); have hG := hF; clear hF; clear hO; intro hO; refine own_call hO (fun hB => HS.out _ hB) ?_; clear hO; intro w1 hO; (try simp only [World.size_alloc1, World.size_drew, Nat.reduceAdd] at hO); (try simp only [upd, updI, List.map_cons, List.map_nil, eq_self, if_true, if_false, reduceIte, Nat.add_eq_left, Nat.left_eq_add, Nat.reduceEqDiff, List.set_cons_zero, List.set_cons_succ, hG] at hO); clear hG; have hF := hO; (try simp only [Own, Item.Holds, apartI, CellsAt, Nat.reduceAdd, Nat.zero_add, List.mem_cons, List.not_mem_nil, or_false, forall_eq_or_imp, forall_eq, ne_eq, false_imp_iff, implies_true, and_true] at hF))
          go_ret
          exact ⟨ret_int HE3.out.symm, Own.base (by (repeat (first | (with_reducible exact hO) | (with_reducible apply Own.alloc) | (with_reducible apply Own.drew) | ((with_reducible apply Own.set_at); (focus (show _ ≤ _; omega))))))⟩
        · have HY := hid (show y = r - s.e.length by rw [← hy]; unfold szE; rw [if_neg hneg])
          have y0 : ¬ y < 0 := by rw [HY.out]; exact hneg
          have yb : 0 ≤ y ∧ y ≤ 1000000000 := by have := HY.out; omega
          have HE3 := hid (show z = szG y (l.drop (k + 1)) by rw [HZ.out, HD.out, HY.out]; simp only [szG]; rw [if_neg hneg])
          clear hend hs hcell hev d0 d1 d2 hy hneg
          go_wp2_with (go_at_call 8; apply own_at hO; (repeat (first | (with_reducible exact hO) | (with_reducible apply Own.alloc) | (with_reducible apply Own.drew) | ((with_reducible apply Own.set_at); (focus (show _ ≤ _; omega))))); have hG := hF; clear hF; clear hO; intro hO; refine own_call hO (fun hB => HS.out _ hB) ?_; clear hO; intro w1 hO; (try simp only [World.size_alloc1, World.size_drew, Nat.reduceAdd] at hO); (try simp only [upd, updI, List.map_cons, List.map_nil, eq_self, if_true, if_false, reduceIte, Nat.add_eq_left, Nat.left_eq_add, Nat.reduceEqDiff, List.set_cons_zero, List.set_cons_succ, hG] at hO); clear hG; have hF := hO; (try simp only [Own, Item.Holds, apartI, CellsAt, Nat.reduceAdd, Nat.zero_add, List.mem_cons, List.not_mem_nil, or_false, forall_eq_or_imp, forall_eq, ne_eq, false_imp_iff, implies_true, and_true] at hF))
          go_roundw
          case rel => exact ⟨k + 1, y, by omega, by go_num, rfl, yb, HE3, hO⟩
          case measure => simp [intOf]; omega

/-! ### Copies -/

theorem madeI (n : Nat) : (madeCells (Value.int .i64 0).cells (n * 1)).toList = inC (List.replicate n 0) := by
  have hz : (Value.int .i64 0).cells = #[.int .i64 0] := by kernel_rfl
  rw [hz]
  have := made_rep #[Value.int .i64 0] (by decide) n
  rw [show (#[Value.int .i64 0] : Array Value).size = 1 from rfl] at this
  rw [this]
  show _ = List.map (Value.int .i64) (List.replicate n 0)
  rw [List.map_replicate]
  clear this hz
  induction n with
  | zero => rfl
  | succ n ih => rw [List.replicate_succ, List.flatten_cons, ih, List.replicate_succ]; rfl
/-- The first k of them are laid, the others zero. -/
def mixI (u : List Int) (k : Nat) : List Int := u.take k ++ List.replicate (u.length - k) 0
theorem mixI_zero (u : List Int) : mixI u 0 = List.replicate u.length 0 := by simp [mixI]
theorem mixI_full (u : List Int) : mixI u u.length = u := by simp [mixI]
theorem mixI_len (u : List Int) {k : Nat} (h : k ≤ u.length) : (mixI u k).length = u.length := by simp [mixI]; omega
theorem mixI_put {u : List Int} {k : Nat} {x : Int} (h : u[k]? = some x) : (inC (mixI u k)).set k (.int .i64 x) = inC (mixI u (k + 1)) := by
  have hl := (List.getElem?_eq_some_iff.1 h).1
  unfold mixI
  rw [get_up h, show u.length - k = (u.length - (k + 1)) + 1 by omega, List.replicate_succ]
  have ht : (u.take k).length = k := by rw [List.length_take]; omega
  unfold inC
  rw [← List.map_set, List.set_append, if_neg (by omega), ht, Nat.sub_self, List.set_cons_zero, List.append_assoc]
  rfl

set_option maxHeartbeats 4000000 in
theorem toI_at (va : Value) (l : List Int) (w : World) (h : IntsAt w va l) (hn : l.length ≤ 1048576) :
    Calls Try.prog 35 #[va] w (RowOut 3 1 l.length (inC l) w) := by
  have hO := Own.start w
  have hF := True.intro
  obtain ⟨i0, hi, hz0, hz1, hz2⟩ := info_parts infoI7
  obtain ⟨A, c, rfl, hA⟩ := h.open'
  obtain ⟨n, hnl⟩ : ∃ n, l.length = n := ⟨_, rfl⟩
  have HN := hid hnl
  rw [hnl] at hn hA
  rw [hnl]
  clear hnl h
  go_enter Try.func35, Try.ntmps35
  go_wp2_with (at_make; go_loud (refine wpList_make_item rfl _ _ 22 rfl 3 i0 (.int .i64 0) 1 8 Try.underlying22 hi hz0 hz1 hz2 _ _ _ _ n rfl rfl rfl rfl (by omega) (by unfold maxLen; omega) (by (repeat (first | (with_reducible exact hO) | (with_reducible apply Own.alloc) | (with_reducible apply Own.drew) | ((with_reducible apply Own.set_at); (focus (show _ ≤ _; omega)))))) ?_); clear hO hF; intro q w2 hO; have hF := hO; (try simp only [Own, Item.Holds, apartI, CellsAt, Nat.reduceAdd, Nat.zero_add, List.mem_cons, List.not_mem_nil, or_false, forall_eq_or_imp, forall_eq, ne_eq, false_imp_iff, implies_true, and_true] at hF))
  rw [madeI n, show List.replicate n (0 : Int) = mixI l 0 by rw [mixI_zero, HN.out]] at hO
  clear hF
  go_loopw [4] (fun t wr => ∃ j : Nat, j ≤ n ∧ t = .int .i64 j ∧ Own w.heap.size (Below w.heap.size w) wr [.row 3 1 (.slice (some ⟨q, 0, none⟩) n n) n (inC (mixI l j))]) (fun t _ => n - (intOf t).toNat)
  case atStart => exact ⟨0, by omega, rfl, hO⟩
  case round =>
    clear hO
    obtain ⟨j, hj, rfl, hO⟩ := hrel
    have hF := hO; (try simp only [Own, Item.Holds, apartI, CellsAt, Nat.reduceAdd, Nat.zero_add, List.mem_cons, List.not_mem_nil, or_false, forall_eq_or_imp, forall_eq, ne_eq, false_imp_iff, implies_true, and_true] at hF)
    by_cases he : j = n
    · subst he
      rw [show mixI l j = l by rw [← HN.out]; exact mixI_full l] at hO
      go_wp2_with fail
      go_ret
      exact RowOut.mk hO
    · have hlt : j < n := by omega
      have hlt2 : (j : Int) < n := by omega
      obtain ⟨b, off, rfl, hc1, hc2, hb, hcell⟩ := hA (by omega)
      obtain ⟨x, hx⟩ : ∃ x, l[j]? = some x := ⟨_, List.getElem?_eq_getElem (by have := HN.out; omega)⟩
      have g0 := ((bcell hO.base).1 b (off + j) hb).trans (hcell j x hx)
      have hm := mixI_len l (k := j) (by have := HN.out; omega)
      obtain ⟨z0, hz0'⟩ : ∃ z0, (inC (mixI l j))[j]? = some z0 := ⟨_, List.getElem?_eq_getElem (by rw [List.length_map, hm]; have := HN.out; omega)⟩
      have g2 := hO.row_cell hz0'
      have f2 := hO.row_free j
      have hO2 := hO.row_set j (.int .i64 x)
      rw [mixI_put hx] at hO2
      clear he hj hx hcell hm hz0' hO hF
      go_wp2_with fail
      go_roundw
      case rel => exact ⟨j + 1, by omega, by go_num, hO2⟩
      case measure => simp [intOf]; omega
end Go.Proofs.Ytpfefbpmchigeaa
