/- Chapter 11 in the program: the table of a key's chords; chords of keys, degrees of chords. -/
import Derived.Test.YtjfmbklgkmkgjaaDoorOwnMake
import Derived.Test.YtjfmbklgkmkgjaaDoorWalks10S
import Derived.WalkLawsBesides
import Derived.Test.YtjfmbklgkmkgjaaDoorWalks3I
import Derived.Test.YtjfmbklgkmkgjaaDoorWalksPlace
import Derived.Test.YtjfmbklgkmkgjaaDoorWalks11S
import Derived.Test.YtjfmbklgkmkgjaaDoorWalks11P
namespace Go.Proofs.YtjfmbklgkmkgjaaDoor
set_option linter.unusedSimpArgs false
set_option linter.unusedVariables false
set_option maxRecDepth 8000
open Go.RowKit Go.Joins

/-- The chords of a key, one behind the other. -/
def keT (f : Int) (m : Bool) : List Pt := (List.range 28).map fun (i : Nat) => plP f (28 + tonZ f m + ((i / 4 : Nat) : Int) + 2 * ((i % 4 : Nat) : Int))
theorem keT_len (f : Int) (m : Bool) : (keT f m).length = 28 := by simp [keT]
theorem keT_at {f : Int} {m : Bool} {d t : Nat} (hd : d < 7) (ht : t < 4) : (keT f m)[4 * d + t]? = some (plP f (28 + tonZ f m + (d : Int) + 2 * (t : Int))) := by
  unfold keT
  rw [List.getElem?_map, List.getElem?_range (by omega)]
  show some (plP f (28 + tonZ f m + (((4 * d + t) / 4 : Nat) : Int) + 2 * (((4 * d + t) % 4 : Nat) : Int))) = _
  rw [show (4 * d + t) / 4 = d by omega, show (4 * d + t) % 4 = t by omega]
theorem coB_of {f : Int} {d : Nat} (hk : keyB f = true) (hd : d < 7) : coB f (d : Int) = true := by
  unfold coB; rw [hk, inB_iff.2 (by omega)]; rfl
theorem ctN_le (sv : Bool) : 3 ≤ ctN sv ∧ ctN sv ≤ 4 := by cases sv <;> simp [ctN]
theorem keT_row {f : Int} {m : Bool} {d : Nat} (hk : keyB f = true) (hd : d < 7) (sv : Bool) : ((keT f m).drop (4 * d)).take (ctN sv) = coL f m d sv := by
  have hc := coB_of hk hd
  have h4 := ctN_le sv
  refine List.ext_getElem? fun j => ?_
  by_cases hj : j < ctN sv
  · rw [List.getElem?_take_of_lt hj, List.getElem?_drop, keT_at hd (by omega), coL_at hc hj]
  · rw [List.getElem?_eq_none (by rw [List.length_take]; omega), List.getElem?_eq_none (by rw [coL_n m sv hc]; omega)]
theorem pcC_take (v : List Pt) (k : Nat) : pcC (v.take k) = (pcC v).take (k * 3) := by
  by_cases h : k ≤ v.length
  · have e : pcC v = pcC (v.take k) ++ pcC (v.drop k) := by rw [← pcC_append, List.take_append_drop]
    have hl : (pcC (v.take k)).length = k * 3 := by rw [pcC_len, List.length_take]; congr 1; omega
    rw [e, ← hl, List.take_left]
  · rw [List.take_of_length_le (by omega), List.take_of_length_le (by rw [pcC_len]; omega)]
theorem pcC_dropE (v : List Pt) (k : Nat) : pcC (v.drop k) = (pcC v).drop (k * 3) := by
  by_cases h : k ≤ v.length
  · have e : pcC v = pcC (v.take k) ++ pcC (v.drop k) := by rw [← pcC_append, List.take_append_drop]
    have hl : (pcC (v.take k)).length = k * 3 := by rw [pcC_len, List.length_take]; congr 1; omega
    rw [e, ← hl, List.drop_left]
  · rw [List.drop_eq_nil_of_le (by omega), List.drop_eq_nil_of_le (by rw [pcC_len]; omega)]; rfl
/-- The row of a degree, as the table by value gives it. -/
theorem keT_cells {f : Int} {m : Bool} {d : Nat} (hk : keyB f = true) (hd : d < 7) : ((pcC (keT f m)).drop (d * 12)).take 12 = pcC (coL f m d true) := by
  rw [← keT_row (m := m) hk hd true, pcC_take, pcC_dropE]
  rw [show 4 * d * 3 = d * 12 by omega]
  rfl
theorem coL_take {f d : Int} (m : Bool) : (coL f m d true).take 3 = coL f m d false := by
  unfold coL
  split
  · rfl
  · rfl
theorem pcC_one (v : List Pt) : (pcC v).all (·.oneCell') = true := by
  rw [List.all_eq_true]
  intro u hu
  unfold pcC at hu
  obtain ⟨x, _, hx⟩ := List.mem_flatMap.1 hu
  simp [ptC] at hx
  rcases hx with rfl | rfl | rfl <;> rfl
theorem slAt_takeP {w : World} {b off cap n m : Nat} {v : List Pt} (h : SlAt w (.slice (some ⟨b, off, none⟩) n cap) n 3 (pcC v)) (hm : m ≤ n) : SlAt w (.slice (some ⟨b, off, none⟩) m cap) m 3 (pcC (v.take m)) := by
  have hl := h.1
  rw [pcC_len] at hl
  rcases h.2 with ⟨h1, _⟩ | ⟨b', off', cap', h1, h2, h3, h4, h5⟩
  · cases h1
  · cases h1
    refine ⟨by rw [pcC_len, List.length_take]; congr 1; omega, Or.inr ⟨b, off, cap, rfl, by omega, h3, h4, fun j u hj => h5 j u ?_⟩⟩
    rw [pcC_take] at hj
    have hlt := (List.getElem?_eq_some_iff.1 hj).1
    rw [List.length_take] at hlt
    rwa [List.getElem?_take_of_lt (by omega)] at hj

theorem infoKc : (Tryd.prog.info? 89).map (fun i => (i.zero, i.size, i.bytes)) = some (some (.agg (pcC (List.replicate 28 pt0)).toArray), 84, 672) := by kernel_rfl
theorem infoKr : (Tryd.prog.info? 87).map (fun i => (i.zero, i.size, i.bytes)) = some (some (.agg (pcC (List.replicate 4 pt0)).toArray), 12, 96) := by kernel_rfl
theorem builtKc : Tryd.prog.built 89 [] = some (pcC (List.replicate 28 pt0)).toArray := by kernel_rfl
theorem sizeKc : (Tryd.prog.info? 89).map (·.size) = some 84 := by kernel_rfl
theorem sizeKr : (Tryd.prog.info? 87).map (·.size) = some 12 := by kernel_rfl
/-- What a function hands back: a whole array of its own, and a flag. -/
theorem results_arr {P : Program} {fn : Func} {p r : Tmp} {ty : TypeId} (h : fn.results = #[.cell p ty, .tmp r]) (tmps : Array Value) {n : Nat} {B : World → Prop} {w : World} {L : List Item} {e : TypeId} {size q k : Nat} {xs : List Value} {v : Value}
    (hp : tmps.getD p undef = .pointer (some ⟨q, 0, none⟩)) (hr : tmps.getD r undef = v) (hO : Own n B w L) (hm : arrI e size q k xs ∈ L)
    (d : TypeDesc) (hu : P.underlying ty = some d) (hd : (match d with | .struct _ | .array _ _ => true | _ => false) = true) (hi : (P.info? ty).map (·.size) = some xs.length) :
    (results fn tmps).run P w = .ok (.tuple #[.agg xs.toArray, v]) w := by
  obtain ⟨g1, _, _⟩ := hO.arr_heap hm
  have hp' : tmps[p]?.getD undef = .pointer (some ⟨q, 0, none⟩) := by simpa using hp
  have hr' : tmps[r]?.getD undef = v := by simpa using hr
  simp [results, h, hp', hr', asAddr, run_loadVar_row w q e ty xs.toArray (0, 0) d g1 hu hd (by simpa using hi)]
theorem place_ton {f : Int} {m : Bool} (h0 : -7 ≤ f) (h1 : f ≤ 7) : placeZ (tonZ f m) (altZ f (tonZ f m)) 4 = 28 + tonZ f m := by
  have hb := tonZ_bd f m
  have ha := altZ_bd f (tonZ f m)
  unfold placeZ
  rw [if_pos (pvB_iff.2 (by omega))]
  omega
theorem plI_is {s a o z : Int} (h : placeZ s a o = z) (w : World) :
    Calls Tryd.prog 19 #[.agg #[.int .i64 s, .int .i64 a, .int .i64 o]] w fun e w' => e = .returned (.int .i64 z) ∧ Below w.heap.size w w' := by
  subst h; exact placeI_any s a o w
theorem head_arr {n : Nat} {B : World → Prop} {w : World} {b : Nat} {vs : List Value} {L : List Item} (_h : Own n B w (.blk b vs :: L)) : ∃ q, b = q := ⟨_, rfl⟩
theorem mixP_up {v : List Pt} {j a : Nat} {x : Pt} (hx : v[j]? = some x) (ha : a = j * 3) :
    (((pcC (mixP v j)).set a (.int .i64 x.s)).set (a + 1) (.int .i64 x.a)).set (a + 2) (.int .i64 x.o) = pcC (mixP v (j + 1)) := by
  subst ha; exact mixP_put hx
theorem pcC_some {v : List Pt} {j : Nat} (h : j < v.length * 3) : ∃ u, (pcC v)[j]? = some u := ⟨_, List.getElem?_eq_getElem (by rw [pcC_len]; exact h)⟩

set_option maxRecDepth 20000 in
set_option maxHeartbeats 8000000 in
theorem ckI_in (f : Int) (m : Bool) (w : World) (hA : TabA w) (h0 : -7 ≤ f) (h1 : f ≤ 7) :
    Calls Tryd.prog 65 #[.int .i64 f, .bool m] w fun e w' => e = .returned (.tuple #[.agg (pcC (keT f m)).toArray, .bool true]) ∧ Below w.heap.size w w' := by
  have hO := Own.start w
  have hF := True.intro
  obtain ⟨i0, hi0, hz0, hs0, hb0⟩ := info_parts infoKc
  obtain ⟨t0, t6⟩ := tonZ_bd f m
  have HT := hid hA
  have HKT := hid (fun W (hW : Below w.heap.size w W) => ktI_yes f m W (HT.out.below hW) h0 h1)
  have HPL := hid (fun W => plI_is (place_ton (m := m) h0 h1) W)
  have HKP := hid (fun (p : Int) W (hW : Below w.heap.size w W) (p0 : 0 ≤ p) (p1 : p ≤ 1000) => kpI_any f p W (HT.out.below hW) (keyB_iff.2 ⟨h0, h1⟩) p0 p1)
  have HK := hid (fun (d t : Nat) (hd : d < 7) (ht : t < 4) => keT_at (f := f) (m := m) hd ht)
  have HL := hid (keT_len f m)
  obtain ⟨tq, hto⟩ : ∃ t, tonZ f m = t := ⟨_, rfl⟩
  obtain ⟨al, hal⟩ : ∃ a, altZ f tq = a := ⟨_, rfl⟩
  obtain ⟨K, hK⟩ : ∃ K, keT f m = K := ⟨_, rfl⟩
  rw [hto, hal] at HKT HPL
  rw [hto] at HK t0 t6
  rw [hK] at HK HL
  rw [hK]
  clear hA hto hal hK
  go_enter Tryd.func65, Tryd.ntmps65
  go_wp2_with ((with_reducible (show wpList _ _ _ (⟨_, .alloc _, _, _, _, _⟩ :: _) _ _)); apply own_list hO; (repeat (first | (with_reducible exact hO) | (with_reducible apply Own.alloc) | (with_reducible apply Own.drew) | ((with_reducible apply Own.set_at); (focus (show _ ≤ _; omega))))); have hG := hF; clear hF; clear hO; intro hO; (try simp only [World.size_alloc1, World.size_drew, Nat.reduceAdd] at hO); (try simp only [upd, updI, List.map_cons, List.map_nil, eq_self, if_true, if_false, reduceIte, Nat.add_eq_left, Nat.left_eq_add, Nat.reduceEqDiff, List.set_cons_zero, List.set_cons_succ, hG] at hO); clear hG; (try simp only [World.size_setCell] at hO); have hF := hO; (try simp only [Own, Item.Holds, apartI, CellsAt, Nat.reduceAdd, Nat.zero_add, List.mem_cons, List.not_mem_nil, or_false, forall_eq_or_imp, forall_eq, ne_eq, false_imp_iff, implies_true, and_true] at hF); refine wpList_alloc_arr (size := 3) (k := 28) rfl 89 rfl i0 hi0 hz0 (by rw [pcC_len]; rfl) (by unfold maxLen; omega) hO ?_; clear hO hF; intro q4 w4 hO; have hF := hO; (try simp only [Own, Item.Holds, apartI, CellsAt, Nat.reduceAdd, Nat.zero_add, List.mem_cons, List.not_mem_nil, or_false, forall_eq_or_imp, forall_eq, ne_eq, false_imp_iff, implies_true, and_true] at hF))
  go_wp2_with (first | (go_at_call 91; apply own_at hO; (repeat (first | (with_reducible exact hO) | (with_reducible apply Own.alloc) | (with_reducible apply Own.drew) | ((with_reducible apply Own.set_at); (focus (show _ ≤ _; omega))))); have hG := hF; clear hF; clear hO; intro hO; refine own_call hO (fun hB => HKT.out _ hB) ?_; clear hO; intro w1 hO; (try simp only [World.size_alloc1, World.size_drew, Nat.reduceAdd] at hO); (try simp only [upd, updI, List.map_cons, List.map_nil, eq_self, if_true, if_false, reduceIte, Nat.add_eq_left, Nat.left_eq_add, Nat.reduceEqDiff, List.set_cons_zero, List.set_cons_succ, hG] at hO); clear hG; have hF := hO; (try simp only [Own, Item.Holds, apartI, CellsAt, Nat.reduceAdd, Nat.zero_add, List.mem_cons, List.not_mem_nil, or_false, forall_eq_or_imp, forall_eq, ne_eq, false_imp_iff, implies_true, and_true] at hF)) | ((with_reducible (show wpList _ _ _ (⟨_, .alloc 89, _, _, _, _⟩ :: _) _ _)); apply own_list hO; (repeat (first | (with_reducible exact hO) | (with_reducible apply Own.alloc) | (with_reducible apply Own.drew) | ((with_reducible apply Own.set_at); (focus (show _ ≤ _; omega))))); have hG := hF; clear hF; clear hO; intro hO; (try simp only [World.size_alloc1, World.size_drew, Nat.reduceAdd] at hO); (try simp only [upd, updI, List.map_cons, List.map_nil, eq_self, if_true, if_false, reduceIte, Nat.add_eq_left, Nat.left_eq_add, Nat.reduceEqDiff, List.set_cons_zero, List.set_cons_succ, hG] at hO); clear hG; (try simp only [World.size_setCell] at hO); have hF := hO; (try simp only [Own, Item.Holds, apartI, CellsAt, Nat.reduceAdd, Nat.zero_add, List.mem_cons, List.not_mem_nil, or_false, forall_eq_or_imp, forall_eq, ne_eq, false_imp_iff, implies_true, and_true] at hF); refine wpList_alloc_arr (size := 3) (k := 28) rfl 89 rfl i0 hi0 hz0 (by rw [pcC_len]; rfl) (by unfold maxLen; omega) hO ?_; clear hO hF; intro q8 w8 hO; have hF := hO; (try simp only [Own, Item.Holds, apartI, CellsAt, Nat.reduceAdd, Nat.zero_add, List.mem_cons, List.not_mem_nil, or_false, forall_eq_or_imp, forall_eq, ne_eq, false_imp_iff, implies_true, and_true] at hF)))
  obtain ⟨q6, hq6⟩ := head_arr hO.2
  rw [hq6] at hO ⊢
  clear hF hq6
  have hF := hO; (try simp only [Own, Item.Holds, apartI, CellsAt, Nat.reduceAdd, Nat.zero_add, List.mem_cons, List.not_mem_nil, or_false, forall_eq_or_imp, forall_eq, ne_eq, false_imp_iff, implies_true, and_true] at hF)
  go_loopw [20] (fun t wr => ∃ d : Nat, d ≤ 7 ∧ t = .int .i64 d ∧ Own w.heap.size (Below w.heap.size w) wr [arrI 89 3 q8 28 (pcC (mixP K (4 * d))), .blk q6 [.int .i64 tq, .int .i64 al, .int .i64 4], arrI 89 3 q4 28 (pcC (List.replicate 28 pt0))]) (fun t _ => 7 - (intOf t).toNat)
  case atStart => exact ⟨0, by omega, rfl, by rw [mixP_zero, HL.out]; exact hO⟩
  case round =>
    clear hO hF
    obtain ⟨d, hd, rfl, hO⟩ := hrel
    have hF := hO; (try simp only [Own, Item.Holds, apartI, CellsAt, Nat.reduceAdd, Nat.zero_add, List.mem_cons, List.not_mem_nil, or_false, forall_eq_or_imp, forall_eq, ne_eq, false_imp_iff, implies_true, and_true] at hF)
    by_cases he : d = 7
    · subst he
      rw [show mixP K (4 * 7) = K by rw [show 4 * 7 = K.length from HL.out.symm]; exact mixP_full K] at hO
      have HZ := hid (show (pcC K).length = 84 by rw [pcC_len, HL.out])
      have HO1 := hid (pcC_one K)
      clear hF
      have hF := hO; (try simp only [Own, Item.Holds, apartI, CellsAt, Nat.reduceAdd, Nat.zero_add, List.mem_cons, List.not_mem_nil, or_false, forall_eq_or_imp, forall_eq, ne_eq, false_imp_iff, implies_true, and_true] at hF)
      go_wp2_with (first | ((with_reducible (show wpList _ _ _ (⟨_, .load 89 _, _, _, _, _⟩ :: _) _ _)); apply own_list hO; (repeat (first | (with_reducible exact hO) | (with_reducible apply Own.alloc) | (with_reducible apply Own.drew) | ((with_reducible apply Own.set_at); (focus (show _ ≤ _; omega))))); have hG := hF; clear hF; clear hO; intro hO; (try simp only [World.size_alloc1, World.size_drew, Nat.reduceAdd] at hO); (try simp only [upd, updI, List.map_cons, List.map_nil, eq_self, if_true, if_false, reduceIte, Nat.add_eq_left, Nat.left_eq_add, Nat.reduceEqDiff, List.set_cons_zero, List.set_cons_succ, hG] at hO); clear hG; (try simp only [World.size_setCell] at hO); have hF := hO; (try simp only [Own, Item.Holds, apartI, CellsAt, Nat.reduceAdd, Nat.zero_add, List.mem_cons, List.not_mem_nil, or_false, forall_eq_or_imp, forall_eq, ne_eq, false_imp_iff, implies_true, and_true] at hF); refine wpList_load_arr rfl 89 _ rfl rfl hO List.mem_cons_self _ Tryd.underlying89 rfl (by rw [HZ.out]; exact sizeKc) ?_) | ((with_reducible (show wpList _ _ _ (⟨_, .store 89 _ _, _, _, _, _⟩ :: _) _ _)); apply own_list hO; (repeat (first | (with_reducible exact hO) | (with_reducible apply Own.alloc) | (with_reducible apply Own.drew) | ((with_reducible apply Own.set_at); (focus (show _ ≤ _; omega))))); have hG := hF; clear hF; clear hO; intro hO; (try simp only [World.size_alloc1, World.size_drew, Nat.reduceAdd] at hO); (try simp only [upd, updI, List.map_cons, List.map_nil, eq_self, if_true, if_false, reduceIte, Nat.add_eq_left, Nat.left_eq_add, Nat.reduceEqDiff, List.set_cons_zero, List.set_cons_succ, hG] at hO); clear hG; (try simp only [World.size_setCell] at hO); have hF := hO; (try simp only [Own, Item.Holds, apartI, CellsAt, Nat.reduceAdd, Nat.zero_add, List.mem_cons, List.not_mem_nil, or_false, forall_eq_or_imp, forall_eq, ne_eq, false_imp_iff, implies_true, and_true] at hF); replace hO := hO.perm (List.perm_append_comm (l₁ := [_, _]) (l₂ := [_])); refine wpList_store_arr rfl 89 _ _ rfl rfl rfl hO (by rw [HZ.out]; exact sizeKc) HZ.out HO1.out ?_; clear hO hF; intro w9 hO; have hF := hO; (try simp only [Own, Item.Holds, apartI, CellsAt, Nat.reduceAdd, Nat.zero_add, List.mem_cons, List.not_mem_nil, or_false, forall_eq_or_imp, forall_eq, ne_eq, false_imp_iff, implies_true, and_true] at hF)))
      refine own_ret (v := .tuple #[.agg (pcC K).toArray, .bool true]) hO (fun w1 hO => results_arr Tryd.results65 _ rfl rfl hO List.mem_cons_self _ Tryd.underlying89 rfl (by rw [HZ.out]; exact sizeKc)) rfl (fun hO => ⟨rfl, hO.base⟩)
    · have hdl : d < 7 := by omega
      have hdl2 : (d : Int) < 7 := by omega
      have hd0 : (0 : Int) ≤ (d : Int) := by omega
      clear he
      go_wp2_with fail
      go_loopw [23] (fun t wr => ∃ j : Nat, j ≤ 4 ∧ t = .int .i64 j ∧ Own w.heap.size (Below w.heap.size w) wr [arrI 89 3 q8 28 (pcC (mixP K (4 * d + j))), .blk q6 [.int .i64 tq, .int .i64 al, .int .i64 4], arrI 89 3 q4 28 (pcC (List.replicate 28 pt0))]) (fun t _ => 4 - (intOf t).toNat)
      case atStart => exact ⟨0, by omega, rfl, hO⟩
      case round =>
        clear hO hF
        obtain ⟨j, hj, rfl, hO⟩ := hrel
        have hF := hO; (try simp only [Own, Item.Holds, apartI, CellsAt, Nat.reduceAdd, Nat.zero_add, List.mem_cons, List.not_mem_nil, or_false, forall_eq_or_imp, forall_eq, ne_eq, false_imp_iff, implies_true, and_true] at hF)
        by_cases he : j = 4
        · subst he
          go_wp2_with fail
          go_roundw
          case rel => exact ⟨d + 1, by omega, by go_num, hO⟩
          case measure => simp [intOf]; omega
        · have hjl : j < 4 := by omega
          have hjl2 : (j : Int) < 4 := by omega
          have hj0 : (0 : Int) ≤ (j : Int) := by omega
          obtain ⟨x, hx⟩ : ∃ x, plP f (28 + tq + (d : Int) + 2 * (j : Int)) = x := ⟨_, rfl⟩
          have hKx := HK.out d j hdl hjl
          rw [hx] at hKx
          have HPUT := hid (mixP_up (a := d * 12 + j * 3) hKx (by omega))
          have HKX := hid (show ∀ W, Below w.heap.size w W → Calls Tryd.prog 92 #[.int .i64 f, .int .i64 (28 + tq + (d : Int) + 2 * (j : Int))] W fun e w' => e = .returned (.agg #[.int .i64 x.s, .int .i64 x.a, .int .i64 x.o]) ∧ Below W.heap.size W w' from fun W hW => by
            have := HKP.out (28 + tq + (d : Int) + 2 * (j : Int)) W hW (by omega) (by omega)
            rw [← hx]
            exact this)
          have hml := mixP_len K (4 * d + j) (by have := HL.out; omega)
          have HC0 := hid (pcC_some (v := mixP K (4 * d + j)) (j := d * 12 + j * 3) (by have := HL.out; omega))
          have HC1 := hid (pcC_some (v := mixP K (4 * d + j)) (j := d * 12 + j * 3 + 1) (by have := HL.out; omega))
          have HC2 := hid (pcC_some (v := mixP K (4 * d + j)) (j := d * 12 + j * 3 + 2) (by have := HL.out; omega))
          have wa : IntKind.i64.wrap (28 + tq + (d : Int)) = 28 + tq + (d : Int) := IntWalk.i64_in _ (by omega)
          have wb : IntKind.i64.wrap (2 * (j : Int)) = 2 * (j : Int) := IntWalk.i64_in _ (by omega)
          have wc : IntKind.i64.wrap (28 + tq + (d : Int) + 2 * (j : Int)) = 28 + tq + (d : Int) + 2 * (j : Int) := IntWalk.i64_in _ (by omega)
          clear he hx hKx hml
          go_wp2_with fail
          apply own_code hO
          (repeat (first | (with_reducible exact hO) | (with_reducible apply Own.alloc) | (with_reducible apply Own.drew) | ((with_reducible apply Own.set_at); (focus (show _ ≤ _; omega)))))
          have hG := hF; clear hF; clear hO; intro hO
          (try simp only [World.size_alloc1, World.size_drew, Nat.reduceAdd] at hO); (try simp only [upd, updI, List.map_cons, List.map_nil, eq_self, if_true, if_false, reduceIte, Nat.add_eq_left, Nat.left_eq_add, Nat.reduceEqDiff, List.set_cons_zero, List.set_cons_succ, hG] at hO); clear hG
          refine region_own (X := fun _ => True) [13] (by kernel_rfl) (hO) (trivial) (by first | exact XStab.true | exact XStab.rd | exact XStab.rdIf) ?_
          clear hO
          refine Sim.takeP (i := 0) (d := some 26) (v := ?_) rfl rfl (by kernel_rfl) (by kernel_rfl) (by kernel_rfl) (fun _ _ _ h => h) (by first | exact XStab.true | exact XStab.rd | exact XStab.rdIf) ?_ ?_
          rotate_left
          · first | refine Or.inl ⟨by rfl, fun w => ?_⟩ | (refine Or.inr ⟨by rfl, ?_⟩; with_reducible rfl)
            first | done | (go_simp; all_goals with_reducible rfl)
          try simp only [Act.put, List.setIfInBounds_toArray, List.set_cons_zero, List.set_cons_succ]
          refine Sim.takeP (i := 1) (d := some 27) (v := ?_) rfl rfl (by kernel_rfl) (by kernel_rfl) (by kernel_rfl) (fun _ _ _ h => h) (by first | exact XStab.true | exact XStab.rd | exact XStab.rdIf) ?_ ?_
          rotate_left
          · first | refine Or.inl ⟨by rfl, fun w => ?_⟩ | (refine Or.inr ⟨by rfl, ?_⟩; with_reducible rfl)
            first | done | (go_simp; all_goals with_reducible rfl)
          try simp only [Act.put, List.setIfInBounds_toArray, List.set_cons_zero, List.set_cons_succ]
          refine Sim.takeP (i := 2) (d := some 28) (v := ?_) rfl rfl (by kernel_rfl) (by kernel_rfl) (by kernel_rfl) (fun _ _ _ h => h) (by first | exact XStab.true | exact XStab.rd | exact XStab.rdIf) ?_ ?_
          rotate_left
          · first | refine Or.inl ⟨by rfl, fun w => ?_⟩ | (refine Or.inr ⟨by rfl, ?_⟩; with_reducible rfl)
            first | done | (go_simp; all_goals with_reducible rfl)
          try simp only [Act.put, List.setIfInBounds_toArray, List.set_cons_zero, List.set_cons_succ]
          refine Sim.take (i := 3) (d := some 29) (v := ?_) rfl rfl (by kernel_rfl) (by kernel_rfl) (by kernel_rfl) (by kernel_rfl) (fun _ _ _ h => h) (by first | exact XStab.true | exact XStab.rd | exact XStab.rdIf) ?_ ?_
          rotate_left
          · first | refine Or.inl ⟨by rfl, fun w hO => ?_⟩ | (refine Or.inr ⟨by rfl, ?_⟩; with_reducible rfl)
            first | done | (have hF := hO; (try simp only [Own, Item.Holds, apartI, CellsAt, Nat.reduceAdd, Nat.zero_add, List.mem_cons, List.not_mem_nil, or_false, forall_eq_or_imp, forall_eq, ne_eq, false_imp_iff, implies_true, and_true] at hF); refine Out.same ?_; go_simp; all_goals with_reducible rfl)
          try simp only [Act.put, List.setIfInBounds_toArray, List.set_cons_zero, List.set_cons_succ]
          refine Sim.take (i := 4) (d := some 30) (v := ?_) rfl rfl (by kernel_rfl) (by kernel_rfl) (by kernel_rfl) (by kernel_rfl) (fun _ _ _ h => h) (by first | exact XStab.true | exact XStab.rd | exact XStab.rdIf) ?_ ?_
          rotate_left
          · first | refine Or.inl ⟨by rfl, fun w hO => ?_⟩ | (refine Or.inr ⟨by rfl, ?_⟩; with_reducible rfl)
            first | done | (refine Out.call (f := 19) (args := ?_) ?_ ?_; rotate_left; (focus (go_simp; all_goals with_reducible rfl)); exact HPL.out _)
          try simp only [Act.put, List.setIfInBounds_toArray, List.set_cons_zero, List.set_cons_succ]
          refine Sim.takeP (i := 5) (d := some 31) (v := ?_) rfl rfl (by kernel_rfl) (by kernel_rfl) (by kernel_rfl) (fun _ _ _ h => h) (by first | exact XStab.true | exact XStab.rd | exact XStab.rdIf) ?_ ?_
          rotate_left
          · first | refine Or.inl ⟨by rfl, fun w => ?_⟩ | (refine Or.inr ⟨by rfl, ?_⟩; with_reducible rfl)
            first | done | (go_simp; all_goals with_reducible rfl)
          try simp only [Act.put, List.setIfInBounds_toArray, List.set_cons_zero, List.set_cons_succ]
          refine Sim.takeP (i := 6) (d := some 32) (v := ?_) rfl rfl (by kernel_rfl) (by kernel_rfl) (by kernel_rfl) (fun _ _ _ h => h) (by first | exact XStab.true | exact XStab.rd | exact XStab.rdIf) ?_ ?_
          rotate_left
          · first | refine Or.inl ⟨by rfl, fun w => ?_⟩ | (refine Or.inr ⟨by rfl, ?_⟩; with_reducible rfl)
            first | done | (go_simp; all_goals with_reducible rfl)
          try simp only [Act.put, List.setIfInBounds_toArray, List.set_cons_zero, List.set_cons_succ]
          refine Sim.takeP (i := 7) (d := some 33) (v := ?_) rfl rfl (by kernel_rfl) (by kernel_rfl) (by kernel_rfl) (fun _ _ _ h => h) (by first | exact XStab.true | exact XStab.rd | exact XStab.rdIf) ?_ ?_
          rotate_left
          · first | refine Or.inl ⟨by rfl, fun w => ?_⟩ | (refine Or.inr ⟨by rfl, ?_⟩; with_reducible rfl)
            first | done | (go_simp; all_goals with_reducible rfl)
          try simp only [Act.put, List.setIfInBounds_toArray, List.set_cons_zero, List.set_cons_succ]
          refine Sim.takeP (i := 8) (d := some 34) (v := ?_) rfl rfl (by kernel_rfl) (by kernel_rfl) (by kernel_rfl) (fun _ _ _ h => h) (by first | exact XStab.true | exact XStab.rd | exact XStab.rdIf) ?_ ?_
          rotate_left
          · first | refine Or.inl ⟨by rfl, fun w => ?_⟩ | (refine Or.inr ⟨by rfl, ?_⟩; with_reducible rfl)
            first | done | (go_simp; all_goals with_reducible rfl)
          try simp only [Act.put, List.setIfInBounds_toArray, List.set_cons_zero, List.set_cons_succ]
          refine Sim.takeP (i := 9) (d := some 35) (v := ?_) rfl rfl (by kernel_rfl) (by kernel_rfl) (by kernel_rfl) (fun _ _ _ h => h) (by first | exact XStab.true | exact XStab.rd | exact XStab.rdIf) ?_ ?_
          rotate_left
          · first | refine Or.inl ⟨by rfl, fun w => ?_⟩ | (refine Or.inr ⟨by rfl, ?_⟩; with_reducible rfl)
            first | done | (go_simp; all_goals with_reducible rfl)
          try simp only [Act.put, List.setIfInBounds_toArray, List.set_cons_zero, List.set_cons_succ]
          refine Sim.take (i := 10) (d := some 36) (v := ?_) rfl rfl (by kernel_rfl) (by kernel_rfl) (by kernel_rfl) (by kernel_rfl) (fun _ _ _ h => h) (by first | exact XStab.true | exact XStab.rd | exact XStab.rdIf) ?_ ?_
          rotate_left
          · first | refine Or.inl ⟨by rfl, fun w hO => ?_⟩ | (refine Or.inr ⟨by rfl, ?_⟩; with_reducible rfl)
            first | done | (refine Out.call (f := 92) (args := ?_) ?_ ?_; rotate_left; (focus (go_simp; all_goals with_reducible rfl)); exact HKX.out _ hO.base)
          try simp only [Act.put, List.setIfInBounds_toArray, List.set_cons_zero, List.set_cons_succ]
          refine Sim.takeP (i := 11) (d := some 37) (v := ?_) rfl rfl (by kernel_rfl) (by kernel_rfl) (by kernel_rfl) (fun _ _ _ h => h) (by first | exact XStab.true | exact XStab.rd | exact XStab.rdIf) ?_ ?_
          rotate_left
          · first | refine Or.inl ⟨by rfl, fun w => ?_⟩ | (refine Or.inr ⟨by rfl, ?_⟩; with_reducible rfl)
            first | done | (go_simp; all_goals with_reducible rfl)
          try simp only [Act.put, List.setIfInBounds_toArray, List.set_cons_zero, List.set_cons_succ]
          refine Sim.takeP (i := 12) (d := some 38) (v := ?_) rfl rfl (by kernel_rfl) (by kernel_rfl) (by kernel_rfl) (fun _ _ _ h => h) (by first | exact XStab.true | exact XStab.rd | exact XStab.rdIf) ?_ ?_
          rotate_left
          · first | refine Or.inl ⟨by rfl, fun w => ?_⟩ | (refine Or.inr ⟨by rfl, ?_⟩; with_reducible rfl)
            first | done | (go_simp; all_goals with_reducible rfl)
          try simp only [Act.put, List.setIfInBounds_toArray, List.set_cons_zero, List.set_cons_succ]
          refine Sim.one' (i := 13) (oi := { dst := none, op := Op.store 24 (Operand.tmp 38) (Operand.tmp 36), type := 0, pos := "l11_harmony.go:93", after := #[{ on := 12, ground := Ground.data }, { on := 10, ground := Ground.data }, { on := 10, ground := Ground.chain }, { on := 0, ground := Ground.phase }, { on := 1, ground := Ground.phase }, { on := 2, ground := Ground.phase }, { on := 3, ground := Ground.phase }, { on := 4, ground := Ground.phase }, { on := 5, ground := Ground.phase }, { on := 6, ground := Ground.phase }, { on := 7, ground := Ground.phase }, { on := 8, ground := Ground.phase }, { on := 9, ground := Ground.phase }, { on := 10, ground := Ground.phase }], guard := none }) (by kernel_rfl) rfl (by rfl) (fun w0 hO hX K hK => ?_)
          (have hF := hO; (try simp only [Own, Item.Holds, apartI, CellsAt, Nat.reduceAdd, Nat.zero_add, List.mem_cons, List.not_mem_nil, or_false, forall_eq_or_imp, forall_eq, ne_eq, false_imp_iff, implies_true, and_true] at hF))
          obtain ⟨u0, c0⟩ := HC0.out
          obtain ⟨u1, c1⟩ := HC1.out
          obtain ⟨u2, c2⟩ := HC2.out
          have g0 := hO.row_cell c0
          have g1 := hO.row_cell c1
          have g2 := hO.row_cell c2
          have f0 := hO.row_free (d * 12 + j * 3)
          have f1 := hO.row_free (d * 12 + j * 3 + 1)
          have f2 := hO.row_free (d * 12 + j * 3 + 2)
          have hO2 := ((hO.row_set (d * 12 + j * 3) (.int .i64 x.s)).row_set (d * 12 + j * 3 + 1) (.int .i64 x.a)).row_set (d * 12 + j * 3 + 2) (.int .i64 x.o)
          rw [HPUT.out] at hO2
          clear hO hF c0 c1 c2
          go_simp
          apply hK _ _ _ (fun _ => True)
          · exact hO2
          · exact trivial
          · exact XStab.true
          · first | exact fun _ _ h => h.2 | exact fun h => absurd h (by decide)
          clear hO2
          clear hK K
          try simp only [Act.put, List.setIfInBounds_toArray, List.set_cons_zero, List.set_cons_succ]
          refine Sim.done (by kernel_rfl) (fun w1 hO hX => ?_) _
          (try simp only [World.size_alloc1, World.size_drew, Nat.reduceAdd] at hO); (try simp only [upd, updI, List.map_cons, List.map_nil, eq_self, if_true, if_false, reduceIte, Nat.add_eq_left, Nat.left_eq_add, Nat.reduceEqDiff, List.set_cons_zero, List.set_cons_succ] at hO)
          have hF := hO; (try simp only [Own, Item.Holds, apartI, CellsAt, Nat.reduceAdd, Nat.zero_add, List.mem_cons, List.not_mem_nil, or_false, forall_eq_or_imp, forall_eq, ne_eq, false_imp_iff, implies_true, and_true] at hF)
          go_wp2_with fail
          go_roundw
          case rel => exact ⟨j + 1, by omega, by go_num, hO⟩
          case measure => simp [intOf]; omega

set_option maxHeartbeats 2000000 in
theorem ckI_no (f : Int) (m : Bool) (w : World) (hb : keyB f = false) :
    Calls Tryd.prog 65 #[.int .i64 f, .bool m] w fun e w' => e = .returned (.tuple #[.agg (pcC (List.replicate 28 pt0)).toArray, .bool false]) ∧ Below w.heap.size w w' := by
  have hO := Own.start w
  have hF := True.intro
  obtain ⟨i0, hi0, hz0, hs0, hb0⟩ := info_parts infoKc
  have HKT := hid (fun W => ktI_no f m W hb)
  have HL := hid (show (pcC (List.replicate 28 pt0)).length = 84 by rw [pcC_len, List.length_replicate])
  have HO1 := hid (pcC_one (List.replicate 28 pt0))
  have HB := hid builtKc
  clear hb
  obtain ⟨zs, hzs⟩ : ∃ zs, pcC (List.replicate 28 pt0) = zs := ⟨_, rfl⟩
  rw [hzs] at HL HO1 HB hz0 ⊢
  clear hzs
  go_enter Tryd.func65, Tryd.ntmps65
  go_wp2_with ((with_reducible (show wpList _ _ _ (⟨_, .alloc _, _, _, _, _⟩ :: _) _ _)); apply own_list hO; (repeat (first | (with_reducible exact hO) | (with_reducible apply Own.alloc) | (with_reducible apply Own.drew) | ((with_reducible apply Own.set_at); (focus (show _ ≤ _; omega))))); have hG := hF; clear hF; clear hO; intro hO; (try simp only [World.size_alloc1, World.size_drew, Nat.reduceAdd] at hO); (try simp only [upd, updI, List.map_cons, List.map_nil, eq_self, if_true, if_false, reduceIte, Nat.add_eq_left, Nat.left_eq_add, Nat.reduceEqDiff, List.set_cons_zero, List.set_cons_succ, hG] at hO); clear hG; (try simp only [World.size_setCell] at hO); have hF := hO; (try simp only [Own, Item.Holds, apartI, CellsAt, Nat.reduceAdd, Nat.zero_add, List.mem_cons, List.not_mem_nil, or_false, forall_eq_or_imp, forall_eq, ne_eq, false_imp_iff, implies_true, and_true] at hF); refine wpList_alloc_arr (size := 3) (k := 28) rfl 89 rfl i0 hi0 hz0 (by rw [HL.out]) (by unfold maxLen; omega) hO ?_; clear hO hF; intro q4 w4 hO; have hF := hO; (try simp only [Own, Item.Holds, apartI, CellsAt, Nat.reduceAdd, Nat.zero_add, List.mem_cons, List.not_mem_nil, or_false, forall_eq_or_imp, forall_eq, ne_eq, false_imp_iff, implies_true, and_true] at hF))
  go_wp2_with (first | (go_at_call 91; apply own_at hO; (repeat (first | (with_reducible exact hO) | (with_reducible apply Own.alloc) | (with_reducible apply Own.drew) | ((with_reducible apply Own.set_at); (focus (show _ ≤ _; omega))))); have hG := hF; clear hF; clear hO; intro hO; refine own_call hO (fun hB => HKT.out _) ?_; clear hO; intro w1 hO; (try simp only [World.size_alloc1, World.size_drew, Nat.reduceAdd] at hO); (try simp only [upd, updI, List.map_cons, List.map_nil, eq_self, if_true, if_false, reduceIte, Nat.add_eq_left, Nat.left_eq_add, Nat.reduceEqDiff, List.set_cons_zero, List.set_cons_succ, hG] at hO); clear hG; have hF := hO; (try simp only [Own, Item.Holds, apartI, CellsAt, Nat.reduceAdd, Nat.zero_add, List.mem_cons, List.not_mem_nil, or_false, forall_eq_or_imp, forall_eq, ne_eq, false_imp_iff, implies_true, and_true] at hF)) | ((with_reducible (show wpList _ _ _ (⟨_, .build 89 _, _, _, _, _⟩ :: _) _ _)); refine wpList_build_arr rfl 89 rfl HB.out ?_) | ((with_reducible (show wpList _ _ _ (⟨_, .store 89 _ _, _, _, _, _⟩ :: _) _ _)); apply own_list hO; (repeat (first | (with_reducible exact hO) | (with_reducible apply Own.alloc) | (with_reducible apply Own.drew) | ((with_reducible apply Own.set_at); (focus (show _ ≤ _; omega))))); have hG := hF; clear hF; clear hO; intro hO; (try simp only [World.size_alloc1, World.size_drew, Nat.reduceAdd] at hO); (try simp only [upd, updI, List.map_cons, List.map_nil, eq_self, if_true, if_false, reduceIte, Nat.add_eq_left, Nat.left_eq_add, Nat.reduceEqDiff, List.set_cons_zero, List.set_cons_succ, hG] at hO); clear hG; (try simp only [World.size_setCell] at hO); have hF := hO; (try simp only [Own, Item.Holds, apartI, CellsAt, Nat.reduceAdd, Nat.zero_add, List.mem_cons, List.not_mem_nil, or_false, forall_eq_or_imp, forall_eq, ne_eq, false_imp_iff, implies_true, and_true] at hF); replace hO := hO.perm (List.perm_append_comm (l₁ := [_]) (l₂ := [_])); refine wpList_store_arr rfl 89 _ _ rfl rfl rfl hO (by rw [HL.out]; exact sizeKc) HL.out HO1.out ?_; clear hO hF; intro w9 hO; have hF := hO; (try simp only [Own, Item.Holds, apartI, CellsAt, Nat.reduceAdd, Nat.zero_add, List.mem_cons, List.not_mem_nil, or_false, forall_eq_or_imp, forall_eq, ne_eq, false_imp_iff, implies_true, and_true] at hF)))
  refine own_ret (v := .tuple #[.agg zs.toArray, .bool false]) hO (fun w1 hO => results_arr Tryd.results65 _ rfl rfl hO List.mem_cons_self _ Tryd.underlying89 rfl (by rw [HL.out]; exact sizeKc)) rfl (fun hO => ⟨rfl, hO.base⟩)

/- slices.Clone. -/
set_option maxHeartbeats 1000000 in
theorem cloI_any (va : Value) (n : Nat) (xs : List Value) (w : World) (hs : SlAt w va n 3 xs) (n0 : 0 < n) (hn : n ≤ 1000) (h1 : ∀ u ∈ xs, u.oneCell' = true) :
    Calls Tryd.prog 67 #[va] w (RowOut 24 3 n xs w) := by
  have hO := Own.start w
  have hF := True.intro
  obtain ⟨i0, hi, hz0, hz1, hz2⟩ := info_parts infoPi
  obtain ⟨A, c, rfl, nb, hA⟩ := hs.open
  obtain ⟨b, off, rfl, hc1, hc2, hb⟩ := hA n0
  have HS := hid hs
  have H1 := hid h1
  have hnil : ∀ W : World, (binOp BinOp.eql 27 (.slice (some ⟨b, off, none⟩) n c) (.slice none 0 0)).run Tryd.prog W = .ok (.bool false) W := fun W => Lib.run_eql_slice_nil W 27 _ _ n c 0 0 Tryd.underlying27
  clear hs hA h1
  go_enter Tryd.func67, Tryd.ntmps67
  go_wp2_with (at_builtin; refine wpList_append_slice rfl _ _ 27 rfl 24 i0 (.agg #[.int .i64 0, .int .i64 0, .int .i64 0]) 3 24 Tryd.underlying27 hi hz0 hz1 hz2 rfl (by decide) rfl rfl ((Own.start w).allocRow (e := 24) (cur := #[]) (k := 0) (cap := 0) 3 (by omega) (by unfold maxLen; omega) rfl) (HS.out.below (below1 _)) H1.out (by unfold maxLen; omega) (by omega) ?_; clear hO hF; intro v' w2 hO; have hF := True.intro)
  go_ret
  rw [Nat.zero_add] at hO
  exact RowOut.mk hO

/- The same steps and alterations. -/
set_option maxHeartbeats 1000000 in
theorem stI_any (va vb : Value) (t l : List Pt) (w : World) (ht : SlAt w va t.length 3 (pcC t)) (hl : SlAt w vb l.length 3 (pcC l)) (h1 : t.length ≤ 1048576) (h2 : l.length ≤ 1048576) :
    Calls Tryd.prog 74 #[va, vb] w fun e w' => e = .returned (.bool (l.all (hasB t) && t.all (hasB l))) ∧ Below w.heap.size w w' := by
  have hO := Own.start w
  have hF := True.intro
  obtain ⟨D, hD⟩ : ∃ D, l.all (hasB t) = D := ⟨_, rfl⟩
  obtain ⟨E, hE⟩ : ∃ D, t.all (hasB l) = D := ⟨_, rfl⟩
  have H1 := hid (fun W (hW : Below w.heap.size w W) => saI_is rfl rfl h1 h2 hD va vb W (hl.below hW) (ht.below hW))
  have H2 := hid (fun W (hW : Below w.heap.size w W) => saI_is rfl rfl h2 h1 hE vb va W (ht.below hW) (hl.below hW))
  obtain ⟨A, c, rfl⟩ := ht.form
  obtain ⟨A2, c2, rfl⟩ := hl.form
  rw [hD, hE]
  clear hD hE ht hl
  cases D
  · go_enter Tryd.func74, Tryd.ntmps74
    go_wp2_with ((go_at_call 61; apply own_at hO; (repeat (first | (with_reducible exact hO) | (with_reducible apply Own.alloc) | (with_reducible apply Own.drew) | ((with_reducible apply Own.set_at); (focus (show _ ≤ _; omega))))); have hG := hF; clear hF; clear hO; intro hO; refine own_call hO (fun hB => H1.out _ hB) ?_; clear hO; intro w1 hO; (try simp only [World.size_alloc1, World.size_drew, Nat.reduceAdd] at hO); (try simp only [upd, updI, List.map_cons, List.map_nil, eq_self, if_true, if_false, reduceIte, Nat.add_eq_left, Nat.left_eq_add, Nat.reduceEqDiff, List.set_cons_zero, List.set_cons_succ, hG] at hO); clear hG; have hF := hO; (try simp only [Own, Item.Holds, apartI, CellsAt, Nat.reduceAdd, Nat.zero_add, List.mem_cons, List.not_mem_nil, or_false, forall_eq_or_imp, forall_eq, ne_eq, false_imp_iff, implies_true, and_true] at hF)); clear H1)
    go_ret
    exact ⟨rfl, hO.base⟩
  · go_enter Tryd.func74, Tryd.ntmps74
    go_wp2_with (first | ((go_at_call 61; apply own_at hO; (repeat (first | (with_reducible exact hO) | (with_reducible apply Own.alloc) | (with_reducible apply Own.drew) | ((with_reducible apply Own.set_at); (focus (show _ ≤ _; omega))))); have hG := hF; clear hF; clear hO; intro hO; refine own_call hO (fun hB => H1.out _ hB) ?_; clear hO; intro w1 hO; (try simp only [World.size_alloc1, World.size_drew, Nat.reduceAdd] at hO); (try simp only [upd, updI, List.map_cons, List.map_nil, eq_self, if_true, if_false, reduceIte, Nat.add_eq_left, Nat.left_eq_add, Nat.reduceEqDiff, List.set_cons_zero, List.set_cons_succ, hG] at hO); clear hG; have hF := hO; (try simp only [Own, Item.Holds, apartI, CellsAt, Nat.reduceAdd, Nat.zero_add, List.mem_cons, List.not_mem_nil, or_false, forall_eq_or_imp, forall_eq, ne_eq, false_imp_iff, implies_true, and_true] at hF)); clear H1) | (go_at_call 61; apply own_at hO; (repeat (first | (with_reducible exact hO) | (with_reducible apply Own.alloc) | (with_reducible apply Own.drew) | ((with_reducible apply Own.set_at); (focus (show _ ≤ _; omega))))); have hG := hF; clear hF; clear hO; intro hO; refine own_call hO (fun hB => H2.out _ hB) ?_; clear hO; intro w1 hO; (try simp only [World.size_alloc1, World.size_drew, Nat.reduceAdd] at hO); (try simp only [upd, updI, List.map_cons, List.map_nil, eq_self, if_true, if_false, reduceIte, Nat.add_eq_left, Nat.left_eq_add, Nat.reduceEqDiff, List.set_cons_zero, List.set_cons_succ, hG] at hO); clear hG; have hF := hO; (try simp only [Own, Item.Holds, apartI, CellsAt, Nat.reduceAdd, Nat.zero_add, List.mem_cons, List.not_mem_nil, or_false, forall_eq_or_imp, forall_eq, ne_eq, false_imp_iff, implies_true, and_true] at hF)))
    go_ret
    exact ⟨rfl, hO.base⟩
theorem stI_is {t l : List Pt} {k n : Nat} {b : Bool} (hk : t.length = k) (hn : l.length = n) (h1 : k ≤ 1048576) (h2 : n ≤ 1048576) (hb : (l.all (hasB t) && t.all (hasB l)) = b) (va vb : Value) (W : World) (ht : SlAt W va k 3 (pcC t)) (hl : SlAt W vb n 3 (pcC l)) :
    Calls Tryd.prog 74 #[va, vb] W fun e w' => e = .returned (.bool b) ∧ Below W.heap.size W w' := by
  subst hk hn hb; exact stI_any va vb t l W ht hl h1 h2

/- Chords of keys. -/
theorem coB_no {f d : Int} (h : coB f d = false) : keyB f = false ∨ keyB f = true ∧ inB d 0 6 = false := coB_not h
theorem slAt_part {w : World} {q k a m : Nat} {v t : List Pt} {n : Nat} {B : World → Prop} {L : List Item} (h : Own n B w (arrI 89 3 q k (pcC v) :: L)) (ha : a + m ≤ k) (hv : v.length = k) (ht : (v.drop a).take m = t) (c : Nat) (hc : m ≤ c) (hc2 : c ≤ maxLen) {o : Nat} (ho : o = a * 3) :
    SlAt w (.slice (some ⟨q, o, none⟩) m c) m 3 (pcC t) := by
  subst ht ho
  have hq : q < w.heap.size := (h.lt _ List.mem_cons_self q rfl).2
  refine ⟨by rw [pcC_len, List.length_take, List.length_drop]; congr 1; omega, Or.inr ⟨q, a * 3, c, rfl, hc, hc2, hq, fun j u hj => ?_⟩⟩
  rw [pcC_take, pcC_dropE] at hj
  have hlt := (List.getElem?_eq_some_iff.1 hj).1
  rw [List.length_take] at hlt
  rw [List.getElem?_take_of_lt (by omega), List.getElem?_drop] at hj
  exact h.row_cell hj

set_option maxRecDepth 20000 in
set_option maxHeartbeats 4000000 in
theorem cnI_in (f : Int) (d : Nat) (m sv : Bool) (w : World) (hA : TabA w) (hk : keyB f = true) (hd : d < 7) :
    Calls Tryd.prog 22 #[.int .i64 f, .bool m, .int .i64 d, .bool sv] w (RowOut 24 3 (ctN sv) (pcC (coL f m d sv)) w) := by
  have hO := Own.start w
  have hF := True.intro
  obtain ⟨i0, hi0, hz0, hs0, hb0⟩ := info_parts infoKc
  obtain ⟨f0, f1⟩ := keyB_iff.1 hk
  have HCK := hid (fun W (hW : Below w.heap.size w W) => ckI_in f m W (hA.below hW) f0 f1)
  have HDE := hid (fun W => deI_is (d := (d : Int)) (inB_iff.2 (by omega)) W)
  have HL := hid (keT_len f m)
  have HZ := hid (show (pcC (keT f m)).length = 84 by rw [pcC_len, keT_len])
  have HO1 := hid (pcC_one (keT f m))
  have HR := hid (keT_row (m := m) hk hd sv)
  have HCL := hid (fun va W (hs : SlAt W va (ctN sv) 3 (pcC (coL f m d sv))) => cloI_any va (ctN sv) _ W hs (by have := ctN_le sv; omega) (by have := ctN_le sv; omega) (fun u hu => List.all_eq_true.1 (pcC_one _) u hu))
  have hd2 : (d : Int) < 7 := by omega
  have hd0 : (0 : Int) ≤ (d : Int) := by omega
  obtain ⟨K, hK⟩ : ∃ K, keT f m = K := ⟨_, rfl⟩
  obtain ⟨T, hT⟩ : ∃ T, coL f m d sv = T := ⟨_, rfl⟩
  rw [hK] at HCK HL HZ HO1 HR
  rw [hT] at HR HCL ⊢
  clear hA hk hK hT f0 f1
  cases sv
  all_goals
    go_enter Tryd.func22, Tryd.ntmps22
    go_wp2_with (first | (go_at_call 65; apply own_at hO; (repeat (first | (with_reducible exact hO) | (with_reducible apply Own.alloc) | (with_reducible apply Own.drew) | ((with_reducible apply Own.set_at); (focus (show _ ≤ _; omega))))); have hG := hF; clear hF; clear hO; intro hO; refine own_call hO (fun hB => HCK.out _ hB) ?_; clear hO; intro w1 hO; (try simp only [World.size_alloc1, World.size_drew, Nat.reduceAdd] at hO); (try simp only [upd, updI, List.map_cons, List.map_nil, eq_self, if_true, if_false, reduceIte, Nat.add_eq_left, Nat.left_eq_add, Nat.reduceEqDiff, List.set_cons_zero, List.set_cons_succ, hG] at hO); clear hG; have hF := hO; (try simp only [Own, Item.Holds, apartI, CellsAt, Nat.reduceAdd, Nat.zero_add, List.mem_cons, List.not_mem_nil, or_false, forall_eq_or_imp, forall_eq, ne_eq, false_imp_iff, implies_true, and_true] at hF)) | (go_at_call 66; apply own_at hO; (repeat (first | (with_reducible exact hO) | (with_reducible apply Own.alloc) | (with_reducible apply Own.drew) | ((with_reducible apply Own.set_at); (focus (show _ ≤ _; omega))))); have hG := hF; clear hF; clear hO; intro hO; refine own_call hO (fun hB => HDE.out _) ?_; clear hO; intro w1 hO; (try simp only [World.size_alloc1, World.size_drew, Nat.reduceAdd] at hO); (try simp only [upd, updI, List.map_cons, List.map_nil, eq_self, if_true, if_false, reduceIte, Nat.add_eq_left, Nat.left_eq_add, Nat.reduceEqDiff, List.set_cons_zero, List.set_cons_succ, hG] at hO); clear hG; have hF := hO; (try simp only [Own, Item.Holds, apartI, CellsAt, Nat.reduceAdd, Nat.zero_add, List.mem_cons, List.not_mem_nil, or_false, forall_eq_or_imp, forall_eq, ne_eq, false_imp_iff, implies_true, and_true] at hF)) | ((with_reducible (show wpList _ _ _ (⟨_, .alloc 89, _, _, _, _⟩ :: _) _ _)); apply own_list hO; (repeat (first | (with_reducible exact hO) | (with_reducible apply Own.alloc) | (with_reducible apply Own.drew) | ((with_reducible apply Own.set_at); (focus (show _ ≤ _; omega))))); have hG := hF; clear hF; clear hO; intro hO; (try simp only [World.size_alloc1, World.size_drew, Nat.reduceAdd] at hO); (try simp only [upd, updI, List.map_cons, List.map_nil, eq_self, if_true, if_false, reduceIte, Nat.add_eq_left, Nat.left_eq_add, Nat.reduceEqDiff, List.set_cons_zero, List.set_cons_succ, hG] at hO); clear hG; (try simp only [World.size_setCell] at hO); have hF := hO; (try simp only [Own, Item.Holds, apartI, CellsAt, Nat.reduceAdd, Nat.zero_add, List.mem_cons, List.not_mem_nil, or_false, forall_eq_or_imp, forall_eq, ne_eq, false_imp_iff, implies_true, and_true] at hF); refine wpList_alloc_arr (size := 3) (k := 28) rfl 89 rfl i0 hi0 hz0 (by rw [pcC_len]; rfl) (by unfold maxLen; omega) hO ?_; clear hO hF; intro q9 w9 hO; have hF := hO; (try simp only [Own, Item.Holds, apartI, CellsAt, Nat.reduceAdd, Nat.zero_add, List.mem_cons, List.not_mem_nil, or_false, forall_eq_or_imp, forall_eq, ne_eq, false_imp_iff, implies_true, and_true] at hF)) | ((with_reducible (show wpList _ _ _ (⟨_, .store 89 _ _, _, _, _, _⟩ :: _) _ _)); apply own_list hO; (repeat (first | (with_reducible exact hO) | (with_reducible apply Own.alloc) | (with_reducible apply Own.drew) | ((with_reducible apply Own.set_at); (focus (show _ ≤ _; omega))))); have hG := hF; clear hF; clear hO; intro hO; (try simp only [World.size_alloc1, World.size_drew, Nat.reduceAdd] at hO); (try simp only [upd, updI, List.map_cons, List.map_nil, eq_self, if_true, if_false, reduceIte, Nat.add_eq_left, Nat.left_eq_add, Nat.reduceEqDiff, List.set_cons_zero, List.set_cons_succ, hG] at hO); clear hG; (try simp only [World.size_setCell] at hO); have hF := hO; (try simp only [Own, Item.Holds, apartI, CellsAt, Nat.reduceAdd, Nat.zero_add, List.mem_cons, List.not_mem_nil, or_false, forall_eq_or_imp, forall_eq, ne_eq, false_imp_iff, implies_true, and_true] at hF); refine wpList_store_arr rfl 89 _ _ rfl rfl rfl hO (by rw [HZ.out]; exact sizeKc) HZ.out HO1.out ?_; clear hO hF; intro w8 hO; have hF := hO; (try simp only [Own, Item.Holds, apartI, CellsAt, Nat.reduceAdd, Nat.zero_add, List.mem_cons, List.not_mem_nil, or_false, forall_eq_or_imp, forall_eq, ne_eq, false_imp_iff, implies_true, and_true] at hF)))
    go_wp2_with (go_at_call 67; apply own_at hO; (repeat (first | (with_reducible exact hO) | (with_reducible apply Own.alloc) | (with_reducible apply Own.drew) | ((with_reducible apply Own.set_at); (focus (show _ ≤ _; omega))))); have hG := hF; clear hF; clear hO; intro hO; refine own_call_row hO (fun hB => HCL.out _ _ (slAt_part hO (a := 4 * d) (by simp [ctN]; omega) HL.out HR.out 4 (by simp [ctN]) (by unfold maxLen; omega) (by omega))) ?_; clear hO; intro v w1 hO; (try simp only [World.size_alloc1, World.size_drew, Nat.reduceAdd] at hO); (try simp only [upd, updI, List.map_cons, List.map_nil, eq_self, if_true, if_false, reduceIte, Nat.add_eq_left, Nat.left_eq_add, Nat.reduceEqDiff, List.set_cons_zero, List.set_cons_succ, hG] at hO); clear hG; have hF := hO; (try simp only [Own, Item.Holds, apartI, CellsAt, Nat.reduceAdd, Nat.zero_add, List.mem_cons, List.not_mem_nil, or_false, forall_eq_or_imp, forall_eq, ne_eq, false_imp_iff, implies_true, and_true] at hF))
    go_ret
    exact RowOut.mk hO

theorem cnI_no (f d : Int) (m sv : Bool) (w : World) (hA : TabA w) (h : coB f d = false) :
    Calls Tryd.prog 22 #[.int .i64 f, .bool m, .int .i64 d, .bool sv] w (RowOut 24 3 0 [] w) := by
  have hO := Own.start w
  have hF := True.intro
  obtain ⟨i0, hi0, hz0, hs0, hb0⟩ := info_parts infoKc
  rcases coB_no h with h1 | ⟨h1, h2⟩
  · have HCK := hid (fun W => ckI_no f m W h1)
    have HZ := hid (show (pcC (List.replicate 28 pt0)).length = 84 by rw [pcC_len, List.length_replicate])
    have HO1 := hid (pcC_one (List.replicate 28 pt0))
    obtain ⟨zs, hzs⟩ : ∃ zs, pcC (List.replicate 28 pt0) = zs := ⟨_, rfl⟩
    rw [hzs] at HCK HZ HO1 hz0
    clear hzs h h1 hA
    go_enter Tryd.func22, Tryd.ntmps22
    go_wp2_with (first | (go_at_call 65; apply own_at hO; (repeat (first | (with_reducible exact hO) | (with_reducible apply Own.alloc) | (with_reducible apply Own.drew) | ((with_reducible apply Own.set_at); (focus (show _ ≤ _; omega))))); have hG := hF; clear hF; clear hO; intro hO; refine own_call hO (fun hB => HCK.out _) ?_; clear hO; intro w1 hO; (try simp only [World.size_alloc1, World.size_drew, Nat.reduceAdd] at hO); (try simp only [upd, updI, List.map_cons, List.map_nil, eq_self, if_true, if_false, reduceIte, Nat.add_eq_left, Nat.left_eq_add, Nat.reduceEqDiff, List.set_cons_zero, List.set_cons_succ, hG] at hO); clear hG; have hF := hO; (try simp only [Own, Item.Holds, apartI, CellsAt, Nat.reduceAdd, Nat.zero_add, List.mem_cons, List.not_mem_nil, or_false, forall_eq_or_imp, forall_eq, ne_eq, false_imp_iff, implies_true, and_true] at hF)) | ((with_reducible (show wpList _ _ _ (⟨_, .alloc 89, _, _, _, _⟩ :: _) _ _)); apply own_list hO; (repeat (first | (with_reducible exact hO) | (with_reducible apply Own.alloc) | (with_reducible apply Own.drew) | ((with_reducible apply Own.set_at); (focus (show _ ≤ _; omega))))); have hG := hF; clear hF; clear hO; intro hO; (try simp only [World.size_alloc1, World.size_drew, Nat.reduceAdd] at hO); (try simp only [upd, updI, List.map_cons, List.map_nil, eq_self, if_true, if_false, reduceIte, Nat.add_eq_left, Nat.left_eq_add, Nat.reduceEqDiff, List.set_cons_zero, List.set_cons_succ, hG] at hO); clear hG; (try simp only [World.size_setCell] at hO); have hF := hO; (try simp only [Own, Item.Holds, apartI, CellsAt, Nat.reduceAdd, Nat.zero_add, List.mem_cons, List.not_mem_nil, or_false, forall_eq_or_imp, forall_eq, ne_eq, false_imp_iff, implies_true, and_true] at hF); refine wpList_alloc_arr (size := 3) (k := 28) rfl 89 rfl i0 hi0 hz0 (by rw [HZ.out]) (by unfold maxLen; omega) hO ?_; clear hO hF; intro q9 w9 hO; have hF := hO; (try simp only [Own, Item.Holds, apartI, CellsAt, Nat.reduceAdd, Nat.zero_add, List.mem_cons, List.not_mem_nil, or_false, forall_eq_or_imp, forall_eq, ne_eq, false_imp_iff, implies_true, and_true] at hF)) | ((with_reducible (show wpList _ _ _ (⟨_, .store 89 _ _, _, _, _, _⟩ :: _) _ _)); apply own_list hO; (repeat (first | (with_reducible exact hO) | (with_reducible apply Own.alloc) | (with_reducible apply Own.drew) | ((with_reducible apply Own.set_at); (focus (show _ ≤ _; omega))))); have hG := hF; clear hF; clear hO; intro hO; (try simp only [World.size_alloc1, World.size_drew, Nat.reduceAdd] at hO); (try simp only [upd, updI, List.map_cons, List.map_nil, eq_self, if_true, if_false, reduceIte, Nat.add_eq_left, Nat.left_eq_add, Nat.reduceEqDiff, List.set_cons_zero, List.set_cons_succ, hG] at hO); clear hG; (try simp only [World.size_setCell] at hO); have hF := hO; (try simp only [Own, Item.Holds, apartI, CellsAt, Nat.reduceAdd, Nat.zero_add, List.mem_cons, List.not_mem_nil, or_false, forall_eq_or_imp, forall_eq, ne_eq, false_imp_iff, implies_true, and_true] at hF); refine wpList_store_arr rfl 89 _ _ rfl rfl rfl hO (by rw [HZ.out]; exact sizeKc) HZ.out HO1.out ?_; clear hO hF; intro w8 hO; have hF := hO; (try simp only [Own, Item.Holds, apartI, CellsAt, Nat.reduceAdd, Nat.zero_add, List.mem_cons, List.not_mem_nil, or_false, forall_eq_or_imp, forall_eq, ne_eq, false_imp_iff, implies_true, and_true] at hF)))
    go_ret
    exact RowOut.mk (Own.nilRow 24 3 hO)
  · obtain ⟨f0, f1⟩ := keyB_iff.1 h1
    have HCK := hid (fun W (hW : Below w.heap.size w W) => ckI_in f m W (hA.below hW) f0 f1)
    have HDE := hid (fun W => deI_is h2 W)
    have HZ := hid (show (pcC (keT f m)).length = 84 by rw [pcC_len, keT_len])
    have HO1 := hid (pcC_one (keT f m))
    obtain ⟨K, hK⟩ : ∃ K, pcC (keT f m) = K := ⟨_, rfl⟩
    rw [hK] at HCK HZ HO1
    clear hA h h1 h2 hK f0 f1
    go_enter Tryd.func22, Tryd.ntmps22
    go_wp2_with (first | (go_at_call 65; apply own_at hO; (repeat (first | (with_reducible exact hO) | (with_reducible apply Own.alloc) | (with_reducible apply Own.drew) | ((with_reducible apply Own.set_at); (focus (show _ ≤ _; omega))))); have hG := hF; clear hF; clear hO; intro hO; refine own_call hO (fun hB => HCK.out _ hB) ?_; clear hO; intro w1 hO; (try simp only [World.size_alloc1, World.size_drew, Nat.reduceAdd] at hO); (try simp only [upd, updI, List.map_cons, List.map_nil, eq_self, if_true, if_false, reduceIte, Nat.add_eq_left, Nat.left_eq_add, Nat.reduceEqDiff, List.set_cons_zero, List.set_cons_succ, hG] at hO); clear hG; have hF := hO; (try simp only [Own, Item.Holds, apartI, CellsAt, Nat.reduceAdd, Nat.zero_add, List.mem_cons, List.not_mem_nil, or_false, forall_eq_or_imp, forall_eq, ne_eq, false_imp_iff, implies_true, and_true] at hF)) | (go_at_call 66; apply own_at hO; (repeat (first | (with_reducible exact hO) | (with_reducible apply Own.alloc) | (with_reducible apply Own.drew) | ((with_reducible apply Own.set_at); (focus (show _ ≤ _; omega))))); have hG := hF; clear hF; clear hO; intro hO; refine own_call hO (fun hB => HDE.out _) ?_; clear hO; intro w1 hO; (try simp only [World.size_alloc1, World.size_drew, Nat.reduceAdd] at hO); (try simp only [upd, updI, List.map_cons, List.map_nil, eq_self, if_true, if_false, reduceIte, Nat.add_eq_left, Nat.left_eq_add, Nat.reduceEqDiff, List.set_cons_zero, List.set_cons_succ, hG] at hO); clear hG; have hF := hO; (try simp only [Own, Item.Holds, apartI, CellsAt, Nat.reduceAdd, Nat.zero_add, List.mem_cons, List.not_mem_nil, or_false, forall_eq_or_imp, forall_eq, ne_eq, false_imp_iff, implies_true, and_true] at hF)) | ((with_reducible (show wpList _ _ _ (⟨_, .alloc 89, _, _, _, _⟩ :: _) _ _)); apply own_list hO; (repeat (first | (with_reducible exact hO) | (with_reducible apply Own.alloc) | (with_reducible apply Own.drew) | ((with_reducible apply Own.set_at); (focus (show _ ≤ _; omega))))); have hG := hF; clear hF; clear hO; intro hO; (try simp only [World.size_alloc1, World.size_drew, Nat.reduceAdd] at hO); (try simp only [upd, updI, List.map_cons, List.map_nil, eq_self, if_true, if_false, reduceIte, Nat.add_eq_left, Nat.left_eq_add, Nat.reduceEqDiff, List.set_cons_zero, List.set_cons_succ, hG] at hO); clear hG; (try simp only [World.size_setCell] at hO); have hF := hO; (try simp only [Own, Item.Holds, apartI, CellsAt, Nat.reduceAdd, Nat.zero_add, List.mem_cons, List.not_mem_nil, or_false, forall_eq_or_imp, forall_eq, ne_eq, false_imp_iff, implies_true, and_true] at hF); refine wpList_alloc_arr (size := 3) (k := 28) rfl 89 rfl i0 hi0 hz0 (by rw [pcC_len]; rfl) (by unfold maxLen; omega) hO ?_; clear hO hF; intro q9 w9 hO; have hF := hO; (try simp only [Own, Item.Holds, apartI, CellsAt, Nat.reduceAdd, Nat.zero_add, List.mem_cons, List.not_mem_nil, or_false, forall_eq_or_imp, forall_eq, ne_eq, false_imp_iff, implies_true, and_true] at hF)) | ((with_reducible (show wpList _ _ _ (⟨_, .store 89 _ _, _, _, _, _⟩ :: _) _ _)); apply own_list hO; (repeat (first | (with_reducible exact hO) | (with_reducible apply Own.alloc) | (with_reducible apply Own.drew) | ((with_reducible apply Own.set_at); (focus (show _ ≤ _; omega))))); have hG := hF; clear hF; clear hO; intro hO; (try simp only [World.size_alloc1, World.size_drew, Nat.reduceAdd] at hO); (try simp only [upd, updI, List.map_cons, List.map_nil, eq_self, if_true, if_false, reduceIte, Nat.add_eq_left, Nat.left_eq_add, Nat.reduceEqDiff, List.set_cons_zero, List.set_cons_succ, hG] at hO); clear hG; (try simp only [World.size_setCell] at hO); have hF := hO; (try simp only [Own, Item.Holds, apartI, CellsAt, Nat.reduceAdd, Nat.zero_add, List.mem_cons, List.not_mem_nil, or_false, forall_eq_or_imp, forall_eq, ne_eq, false_imp_iff, implies_true, and_true] at hF); refine wpList_store_arr rfl 89 _ _ rfl rfl rfl hO (by rw [HZ.out]; exact sizeKc) HZ.out HO1.out ?_; clear hO hF; intro w8 hO; have hF := hO; (try simp only [Own, Item.Holds, apartI, CellsAt, Nat.reduceAdd, Nat.zero_add, List.mem_cons, List.not_mem_nil, or_false, forall_eq_or_imp, forall_eq, ne_eq, false_imp_iff, implies_true, and_true] at hF)))
    go_ret
    exact RowOut.mk (Own.nilRow 24 3 hO)
theorem cnI_any (f d : Int) (m sv : Bool) (w : World) (hA : TabA w) :
    Calls Tryd.prog 22 #[.int .i64 f, .bool m, .int .i64 d, .bool sv] w (RowOut 24 3 (coL f m d sv).length (pcC (coL f m d sv)) w) := by
  cases h : coB f d
  · rw [coL_no m sv h]; exact cnI_no f d m sv w hA h
  · obtain ⟨h1, h2⟩ := coB_parts h
    have := inB_iff.1 h2
    obtain ⟨n, rfl⟩ : ∃ n : Nat, d = n := ⟨d.toNat, by omega⟩
    rw [coL_n m sv h]
    exact cnI_in f n m sv w hA h1 (by omega)

/- Degrees of chords. -/
theorem fit_of {l T : List Pt} (hv : l.all pvP = true) : fitB l T = (l.all (hasB T) && T.all (hasB l)) := by
  unfold fitB
  rw [all_and, hv, Bool.true_and]
theorem dc_start {f : Int} {m : Bool} {l : List Pt} (hk : keyB f = true) (hv : l.all pvP = true) (h12 : l.length ≤ 12) : dcZ f m l = ((degL.drop 0).findSome? (dgF f m l)).getD (-1) := by
  unfold dcZ
  rw [hk, decide_eq_true h12]
  by_cases h1 : 1 ≤ l.length
  · rw [decide_eq_true h1]; rfl
  · obtain rfl : l = [] := List.eq_nil_of_length_eq_zero (by omega)
    rw [decide_eq_false h1]
    have key : ∀ (d : Nat), d < 7 → dgF f m [] (d : Int) = none := fun d hd => by
      have hc := coB_of hk hd
      refine dg_none ?_ ?_
      all_goals
        unfold fitB
        rw [Bool.and_eq_false_iff]
        right
        rw [← Bool.not_eq_true, List.all_eq_true]
        intro h
        have hx := coL_at (m := m) (sv := false) (j := 0) hc (by simp [ctN])
        have hy := coL_at (m := m) (sv := true) (j := 0) hc (by simp [ctN])
        first | exact absurd (h _ (List.mem_of_getElem? hx)) (by simp [hasB]) | exact absurd (h _ (List.mem_of_getElem? hy)) (by simp [hasB])
    have e : degL.findSome? (dgF f m []) = none := by
      rw [List.findSome?_eq_none_iff]
      intro x hx
      obtain ⟨d, hd, rfl⟩ : ∃ d : Nat, d < 7 ∧ x = d := by
        unfold degL at hx
        simp at hx
        exact ⟨x.toNat, by omega, by omega⟩
      exact key d hd
    show -1 = ((degL.drop 0).findSome? (dgF f m [])).getD (-1)
    rw [List.drop_zero, e]
    rfl
theorem dc_bad {f : Int} {m : Bool} {l : List Pt} (h : (l.all pvP && decide (l.length ≤ 12)) = false) : dcZ f m l = -1 := by
  unfold dcZ
  split
  · rename_i hc
    simp only [Bool.and_eq_true, decide_eq_true_eq] at hc
    rw [decide_eq_true hc.2.2, Bool.and_true] at h
    have e : degL.findSome? (dgF f m l) = none := by
      rw [List.findSome?_eq_none_iff]
      intro x _
      have hf : ∀ T, fitB l T = false := fun T => by
        unfold fitB
        rw [all_and, h]
        rfl
      exact dg_none (hf _) (hf _)
    rw [e]; rfl
  · rfl
theorem dc_key {f : Int} {m : Bool} {l : List Pt} (h : keyB f = false) : dcZ f m l = -1 := by
  unfold dcZ; rw [h]; rfl

set_option maxRecDepth 20000 in
set_option maxHeartbeats 8000000 in
theorem dcI_in (f : Int) (m : Bool) (va : Value) (l : List Pt) (n : Nat) (w : World) (hA : TabA w) (hnl : l.length = n) (hs : SlAt w va n 3 (pcC l)) (hk : keyB f = true) (hv : l.all pvP = true) (h12 : n ≤ 12) :
    Calls Tryd.prog 26 #[.int .i64 f, .bool m, va] w fun e w' => e = .returned (.int .i64 (dcZ f m l)) ∧ Below w.heap.size w w' := by
  have hO := Own.start w
  have hF := True.intro
  obtain ⟨i0, hi0, hz0, hs0, hb0⟩ := info_parts infoKc
  obtain ⟨i1, hi1, hy0, hy1, hy2⟩ := info_parts infoKr
  obtain ⟨f0, f1⟩ := keyB_iff.1 hk
  have HCK := hid (fun W (hW : Below w.heap.size w W) => ckI_in f m W (hA.below hW) f0 f1)
  have HLV := hid (lvI_is hnl hs (by omega) (show (l.all pvP && decide (n ≤ 12)) = true by rw [hv, decide_eq_true h12]; rfl))
  have HZ := hid (show (pcC (keT f m)).length = 84 by rw [pcC_len, keT_len])
  have HO1 := hid (pcC_one (keT f m))
  have HR := hid (fun (d : Nat) (hd : d < 7) => keT_cells (m := m) hk hd)
  have HE := hid (dc_start (m := m) hk hv (by omega))
  have HK := hid (And.intro hk (And.intro hv hnl))
  obtain ⟨A, cA, rfl, nb, _⟩ := hs.open
  have HA := hid hs
  obtain ⟨K, hK⟩ : ∃ K, pcC (keT f m) = K := ⟨_, rfl⟩
  rw [hK] at HCK HZ HO1 HR
  clear hA hK f0 f1 hk hv hnl hs
  go_enter Tryd.func26, Tryd.ntmps26
  go_wp2_with (first | (go_at_call 65; apply own_at hO; (repeat (first | (with_reducible exact hO) | (with_reducible apply Own.alloc) | (with_reducible apply Own.drew) | ((with_reducible apply Own.set_at); (focus (show _ ≤ _; omega))))); have hG := hF; clear hF; clear hO; intro hO; refine own_call hO (fun hB => HCK.out _ hB) ?_; clear hO; intro w1 hO; (try simp only [World.size_alloc1, World.size_drew, Nat.reduceAdd] at hO); (try simp only [upd, updI, List.map_cons, List.map_nil, eq_self, if_true, if_false, reduceIte, Nat.add_eq_left, Nat.left_eq_add, Nat.reduceEqDiff, List.set_cons_zero, List.set_cons_succ, hG] at hO); clear hG; have hF := hO; (try simp only [Own, Item.Holds, apartI, CellsAt, Nat.reduceAdd, Nat.zero_add, List.mem_cons, List.not_mem_nil, or_false, forall_eq_or_imp, forall_eq, ne_eq, false_imp_iff, implies_true, and_true] at hF)) | (go_at_call 57; apply own_at hO; (repeat (first | (with_reducible exact hO) | (with_reducible apply Own.alloc) | (with_reducible apply Own.drew) | ((with_reducible apply Own.set_at); (focus (show _ ≤ _; omega))))); have hG := hF; clear hF; clear hO; intro hO; refine own_call hO (fun hB => HLV.out _ hB) ?_; clear hO; intro w1 hO; (try simp only [World.size_alloc1, World.size_drew, Nat.reduceAdd] at hO); (try simp only [upd, updI, List.map_cons, List.map_nil, eq_self, if_true, if_false, reduceIte, Nat.add_eq_left, Nat.left_eq_add, Nat.reduceEqDiff, List.set_cons_zero, List.set_cons_succ, hG] at hO); clear hG; have hF := hO; (try simp only [Own, Item.Holds, apartI, CellsAt, Nat.reduceAdd, Nat.zero_add, List.mem_cons, List.not_mem_nil, or_false, forall_eq_or_imp, forall_eq, ne_eq, false_imp_iff, implies_true, and_true] at hF)) | ((with_reducible (show wpList _ _ _ (⟨_, .alloc 89, _, _, _, _⟩ :: _) _ _)); apply own_list hO; (repeat (first | (with_reducible exact hO) | (with_reducible apply Own.alloc) | (with_reducible apply Own.drew) | ((with_reducible apply Own.set_at); (focus (show _ ≤ _; omega))))); have hG := hF; clear hF; clear hO; intro hO; (try simp only [World.size_alloc1, World.size_drew, Nat.reduceAdd] at hO); (try simp only [upd, updI, List.map_cons, List.map_nil, eq_self, if_true, if_false, reduceIte, Nat.add_eq_left, Nat.left_eq_add, Nat.reduceEqDiff, List.set_cons_zero, List.set_cons_succ, hG] at hO); clear hG; (try simp only [World.size_setCell] at hO); have hF := hO; (try simp only [Own, Item.Holds, apartI, CellsAt, Nat.reduceAdd, Nat.zero_add, List.mem_cons, List.not_mem_nil, or_false, forall_eq_or_imp, forall_eq, ne_eq, false_imp_iff, implies_true, and_true] at hF); refine wpList_alloc_arr (size := 3) (k := 28) rfl 89 rfl i0 hi0 hz0 (by rw [pcC_len]; rfl) (by unfold maxLen; omega) hO ?_; clear hO hF; intro q9 w9 hO; have hF := hO; (try simp only [Own, Item.Holds, apartI, CellsAt, Nat.reduceAdd, Nat.zero_add, List.mem_cons, List.not_mem_nil, or_false, forall_eq_or_imp, forall_eq, ne_eq, false_imp_iff, implies_true, and_true] at hF)) | ((with_reducible (show wpList _ _ _ (⟨_, .store 89 _ _, _, _, _, _⟩ :: _) _ _)); apply own_list hO; (repeat (first | (with_reducible exact hO) | (with_reducible apply Own.alloc) | (with_reducible apply Own.drew) | ((with_reducible apply Own.set_at); (focus (show _ ≤ _; omega))))); have hG := hF; clear hF; clear hO; intro hO; (try simp only [World.size_alloc1, World.size_drew, Nat.reduceAdd] at hO); (try simp only [upd, updI, List.map_cons, List.map_nil, eq_self, if_true, if_false, reduceIte, Nat.add_eq_left, Nat.left_eq_add, Nat.reduceEqDiff, List.set_cons_zero, List.set_cons_succ, hG] at hO); clear hG; (try simp only [World.size_setCell] at hO); have hF := hO; (try simp only [Own, Item.Holds, apartI, CellsAt, Nat.reduceAdd, Nat.zero_add, List.mem_cons, List.not_mem_nil, or_false, forall_eq_or_imp, forall_eq, ne_eq, false_imp_iff, implies_true, and_true] at hF); refine wpList_store_arr rfl 89 _ _ rfl rfl rfl hO (by rw [HZ.out]; exact sizeKc) HZ.out HO1.out ?_; clear hO hF; intro w8 hO; have hF := hO; (try simp only [Own, Item.Holds, apartI, CellsAt, Nat.reduceAdd, Nat.zero_add, List.mem_cons, List.not_mem_nil, or_false, forall_eq_or_imp, forall_eq, ne_eq, false_imp_iff, implies_true, and_true] at hF)) | ((with_reducible (show wpList _ _ _ (⟨_, .load 89 _, _, _, _, _⟩ :: _) _ _)); apply own_list hO; (repeat (first | (with_reducible exact hO) | (with_reducible apply Own.alloc) | (with_reducible apply Own.drew) | ((with_reducible apply Own.set_at); (focus (show _ ≤ _; omega))))); have hG := hF; clear hF; clear hO; intro hO; (try simp only [World.size_alloc1, World.size_drew, Nat.reduceAdd] at hO); (try simp only [upd, updI, List.map_cons, List.map_nil, eq_self, if_true, if_false, reduceIte, Nat.add_eq_left, Nat.left_eq_add, Nat.reduceEqDiff, List.set_cons_zero, List.set_cons_succ, hG] at hO); clear hG; (try simp only [World.size_setCell] at hO); have hF := hO; (try simp only [Own, Item.Holds, apartI, CellsAt, Nat.reduceAdd, Nat.zero_add, List.mem_cons, List.not_mem_nil, or_false, forall_eq_or_imp, forall_eq, ne_eq, false_imp_iff, implies_true, and_true] at hF); refine wpList_load_arr rfl 89 _ rfl rfl hO List.mem_cons_self _ Tryd.underlying89 rfl (by rw [HZ.out]; exact sizeKc) ?_))
  clear HCK HLV
  go_loopw [25] (fun t wr => ∃ c : Nat, c ≤ 7 ∧ t = .int .i64 c ∧ Hid (dcZ f m l = ((degL.drop c).findSome? (dgF f m l)).getD (-1)) ∧ Own w.heap.size (Below w.heap.size w) wr [arrI 89 3 q9 28 K]) (fun t _ => 7 - (intOf t).toNat)
  case atStart => exact ⟨0, by omega, rfl, HE, hO⟩
  case round =>
    clear hO hF HE
    obtain ⟨c, hc, rfl, HE, hO⟩ := hrel
    have hF := hO; (try simp only [Own, Item.Holds, apartI, CellsAt, Nat.reduceAdd, Nat.zero_add, List.mem_cons, List.not_mem_nil, or_false, forall_eq_or_imp, forall_eq, ne_eq, false_imp_iff, implies_true, and_true] at hF)
    by_cases he : c = 7
    · subst he
      have HE2 := hid (HE.out.trans rfl)
      go_wp2_with fail
      go_ret
      exact ⟨ret_int HE2.out.symm, hO.base⟩
    · have hcl : c < 7 := by omega
      have hcl2 : (c : Int) < 7 := by omega
      have hc0 : (0 : Int) ≤ (c : Int) := by omega
      have hcb := coB_of HK.out.1 hcl
      have HC0 := hid (deg_at hcl)
      obtain ⟨T, hT⟩ : ∃ T, coL f m c true = T := ⟨_, rfl⟩
      obtain ⟨U, hU⟩ : ∃ T, coL f m c false = T := ⟨_, rfl⟩
      have HTL := hid (show T.length = 4 by rw [← hT]; exact coL_n m true hcb)
      have HUL := hid (show U.length = 3 by rw [← hU]; exact coL_n m false hcb)
      have HTU := hid (show T.take 3 = U by rw [← hT, ← hU]; exact coL_take m)
      have hrow := HR.out c hcl
      rw [hT] at hrow
      have hix : ∀ W : World, (Instr.index 89 (.agg K.toArray) (.int .i64 c)).run Tryd.prog W = .ok (.agg (pcC T).toArray) W := fun W => by
        rw [← hrow]
        exact run_index_arr 89 87 7 12 K c _ i1 Tryd.underlying89 hcl Tryd.underlying87 rfl hi1 hy1 W
      have HXL := hid (show (pcC T).length = 12 by rw [pcC_len, HTL.out])
      have HX1 := hid (pcC_one T)
      obtain ⟨D, hD⟩ : ∃ D, (l.all (hasB U) && U.all (hasB l)) = D := ⟨_, rfl⟩
      obtain ⟨E, hE⟩ : ∃ D, (l.all (hasB T) && T.all (hasB l)) = D := ⟨_, rfl⟩
      have HD := hid (show fitB l (coL f m c false) = D by rw [fit_of HK.out.2.1, hU]; exact hD)
      have HEE := hid (show fitB l (coL f m c true) = E by rw [fit_of HK.out.2.1, hT]; exact hE)
      have HS1 := hid (fun va vb W (h1 : SlAt W va 3 3 (pcC U)) (h2 : SlAt W vb n 3 (pcC l)) => stI_is HUL.out HK.out.2.2 (by omega) (by omega) hD va vb W h1 h2)
      have HS2 := hid (fun va vb W (h1 : SlAt W va 4 3 (pcC T)) (h2 : SlAt W vb n 3 (pcC l)) => stI_is HTL.out HK.out.2.2 (by omega) (by omega) hE va vb W h1 h2)
      clear he hrow hT hU hD hE hcb
      go_wp2_with (first | ((with_reducible (show wpList _ _ _ (⟨_, .alloc 87, _, _, _, _⟩ :: _) _ _)); apply own_list hO; (repeat (first | (with_reducible exact hO) | (with_reducible apply Own.alloc) | (with_reducible apply Own.drew) | ((with_reducible apply Own.set_at); (focus (show _ ≤ _; omega))))); have hG := hF; clear hF; clear hO; intro hO; (try simp only [World.size_alloc1, World.size_drew, Nat.reduceAdd] at hO); (try simp only [upd, updI, List.map_cons, List.map_nil, eq_self, if_true, if_false, reduceIte, Nat.add_eq_left, Nat.left_eq_add, Nat.reduceEqDiff, List.set_cons_zero, List.set_cons_succ, hG] at hO); clear hG; (try simp only [World.size_setCell] at hO); have hF := hO; (try simp only [Own, Item.Holds, apartI, CellsAt, Nat.reduceAdd, Nat.zero_add, List.mem_cons, List.not_mem_nil, or_false, forall_eq_or_imp, forall_eq, ne_eq, false_imp_iff, implies_true, and_true] at hF); refine wpList_alloc_arr (size := 3) (k := 4) rfl 87 rfl i1 hi1 hy0 (by rw [pcC_len]; rfl) (by unfold maxLen; omega) hO ?_; clear hO hF; intro q7 w7 hO; have hF := hO; (try simp only [Own, Item.Holds, apartI, CellsAt, Nat.reduceAdd, Nat.zero_add, List.mem_cons, List.not_mem_nil, or_false, forall_eq_or_imp, forall_eq, ne_eq, false_imp_iff, implies_true, and_true] at hF)) | ((with_reducible (show wpList _ _ _ (⟨_, .store 87 _ _, _, _, _, _⟩ :: _) _ _)); apply own_list hO; (repeat (first | (with_reducible exact hO) | (with_reducible apply Own.alloc) | (with_reducible apply Own.drew) | ((with_reducible apply Own.set_at); (focus (show _ ≤ _; omega))))); have hG := hF; clear hF; clear hO; intro hO; (try simp only [World.size_alloc1, World.size_drew, Nat.reduceAdd] at hO); (try simp only [upd, updI, List.map_cons, List.map_nil, eq_self, if_true, if_false, reduceIte, Nat.add_eq_left, Nat.left_eq_add, Nat.reduceEqDiff, List.set_cons_zero, List.set_cons_succ, hG] at hO); clear hG; (try simp only [World.size_setCell] at hO); have hF := hO; (try simp only [Own, Item.Holds, apartI, CellsAt, Nat.reduceAdd, Nat.zero_add, List.mem_cons, List.not_mem_nil, or_false, forall_eq_or_imp, forall_eq, ne_eq, false_imp_iff, implies_true, and_true] at hF); refine wpList_store_arr rfl 87 _ _ rfl rfl rfl hO (by rw [HXL.out]; exact sizeKr) HXL.out HX1.out ?_; clear hO hF; intro w6 hO; have hF := hO; (try simp only [Own, Item.Holds, apartI, CellsAt, Nat.reduceAdd, Nat.zero_add, List.mem_cons, List.not_mem_nil, or_false, forall_eq_or_imp, forall_eq, ne_eq, false_imp_iff, implies_true, and_true] at hF)))
      have HSA := hid (fun W {B : World → Prop} {L : List Item} (hW : Own w.heap.size B W (arrI 87 3 q7 4 (pcC T) :: L)) => (show SlAt W (.slice (some ⟨q7, 0, none⟩) 4 4) 4 3 (pcC T) from SlAt.of_row hW.1.1))
      have HSB := hid (fun W {B : World → Prop} {L : List Item} (hW : Own w.heap.size B W (arrI 87 3 q7 4 (pcC T) :: L)) => (show SlAt W (.slice (some ⟨q7, 0, none⟩) 3 4) 3 3 (pcC U) from by
        have := slAt_takeP (m := 3) (HSA.out W hW) (by omega)
        rwa [HTU.out] at this))
      cases D
      · go_wp2_with ((go_at_call 74; apply own_at hO; (repeat (first | (with_reducible exact hO) | (with_reducible apply Own.alloc) | (with_reducible apply Own.drew) | ((with_reducible apply Own.set_at); (focus (show _ ≤ _; omega))))); have hG := hF; clear hF; clear hO; intro hO; refine own_callO hO (fun hW => HS1.out _ _ _ (HSB.out _ hW) (HA.out.below hW.base)) ?_; clear hO; intro w1 hO; (try simp only [World.size_alloc1, World.size_drew, Nat.reduceAdd] at hO); (try simp only [upd, updI, List.map_cons, List.map_nil, eq_self, if_true, if_false, reduceIte, Nat.add_eq_left, Nat.left_eq_add, Nat.reduceEqDiff, List.set_cons_zero, List.set_cons_succ, hG] at hO); clear hG; have hF := hO; (try simp only [Own, Item.Holds, apartI, CellsAt, Nat.reduceAdd, Nat.zero_add, List.mem_cons, List.not_mem_nil, or_false, forall_eq_or_imp, forall_eq, ne_eq, false_imp_iff, implies_true, and_true] at hF)); clear HS1)
        cases E
        · have HE2 := hid (HE.out.trans (congrArg (Option.getD · (-1)) (findSome_miss HC0.out (dg_none HD.out HEE.out))))
          go_wp2_with (go_at_call 74; apply own_at hO; (repeat (first | (with_reducible exact hO) | (with_reducible apply Own.alloc) | (with_reducible apply Own.drew) | ((with_reducible apply Own.set_at); (focus (show _ ≤ _; omega))))); have hG := hF; clear hF; clear hO; intro hO; refine own_callO hO (fun hW => HS2.out _ _ _ (HSA.out _ hW) (HA.out.below hW.base)) ?_; clear hO; intro w1 hO; (try simp only [World.size_alloc1, World.size_drew, Nat.reduceAdd] at hO); (try simp only [upd, updI, List.map_cons, List.map_nil, eq_self, if_true, if_false, reduceIte, Nat.add_eq_left, Nat.left_eq_add, Nat.reduceEqDiff, List.set_cons_zero, List.set_cons_succ, hG] at hO); clear hG; have hF := hO; (try simp only [Own, Item.Holds, apartI, CellsAt, Nat.reduceAdd, Nat.zero_add, List.mem_cons, List.not_mem_nil, or_false, forall_eq_or_imp, forall_eq, ne_eq, false_imp_iff, implies_true, and_true] at hF))
          go_roundw
          case rel => exact ⟨c + 1, by omega, by go_num, HE2.out, Own.drop hO⟩
          case measure => simp [intOf]; omega
        · have HE2 := hid (HE.out.trans (congrArg (Option.getD · (-1)) (findSome_hit HC0.out (dg_some HEE.out))))
          go_wp2_with (go_at_call 74; apply own_at hO; (repeat (first | (with_reducible exact hO) | (with_reducible apply Own.alloc) | (with_reducible apply Own.drew) | ((with_reducible apply Own.set_at); (focus (show _ ≤ _; omega))))); have hG := hF; clear hF; clear hO; intro hO; refine own_callO hO (fun hW => HS2.out _ _ _ (HSA.out _ hW) (HA.out.below hW.base)) ?_; clear hO; intro w1 hO; (try simp only [World.size_alloc1, World.size_drew, Nat.reduceAdd] at hO); (try simp only [upd, updI, List.map_cons, List.map_nil, eq_self, if_true, if_false, reduceIte, Nat.add_eq_left, Nat.left_eq_add, Nat.reduceEqDiff, List.set_cons_zero, List.set_cons_succ, hG] at hO); clear hG; have hF := hO; (try simp only [Own, Item.Holds, apartI, CellsAt, Nat.reduceAdd, Nat.zero_add, List.mem_cons, List.not_mem_nil, or_false, forall_eq_or_imp, forall_eq, ne_eq, false_imp_iff, implies_true, and_true] at hF))
          go_ret
          exact ⟨ret_int HE2.out.symm, hO.base⟩
      · have HE2 := hid (HE.out.trans (congrArg (Option.getD · (-1)) (findSome_hit HC0.out (dg_some HD.out))))
        go_wp2_with (go_at_call 74; apply own_at hO; (repeat (first | (with_reducible exact hO) | (with_reducible apply Own.alloc) | (with_reducible apply Own.drew) | ((with_reducible apply Own.set_at); (focus (show _ ≤ _; omega))))); have hG := hF; clear hF; clear hO; intro hO; refine own_callO hO (fun hW => HS1.out _ _ _ (HSB.out _ hW) (HA.out.below hW.base)) ?_; clear hO; intro w1 hO; (try simp only [World.size_alloc1, World.size_drew, Nat.reduceAdd] at hO); (try simp only [upd, updI, List.map_cons, List.map_nil, eq_self, if_true, if_false, reduceIte, Nat.add_eq_left, Nat.left_eq_add, Nat.reduceEqDiff, List.set_cons_zero, List.set_cons_succ, hG] at hO); clear hG; have hF := hO; (try simp only [Own, Item.Holds, apartI, CellsAt, Nat.reduceAdd, Nat.zero_add, List.mem_cons, List.not_mem_nil, or_false, forall_eq_or_imp, forall_eq, ne_eq, false_imp_iff, implies_true, and_true] at hF))
        go_ret
        exact ⟨ret_int HE2.out.symm, hO.base⟩

set_option maxHeartbeats 2000000 in
theorem dcI_no (f : Int) (m : Bool) (va : Value) (l : List Pt) (n : Nat) (w : World) (hA : TabA w) (hnl : l.length = n) (hs : SlAt w va n 3 (pcC l)) (hn : n ≤ 1048576) (h : (keyB f && (l.all pvP && decide (n ≤ 12))) = false) :
    Calls Tryd.prog 26 #[.int .i64 f, .bool m, va] w fun e w' => e = .returned (.int .i64 (dcZ f m l)) ∧ Below w.heap.size w w' := by
  have hO := Own.start w
  have hF := True.intro
  obtain ⟨i0, hi0, hz0, hs0, hb0⟩ := info_parts infoKc
  obtain ⟨A, cA, rfl, nb, _⟩ := hs.open
  cases h1 : keyB f
  · have HCK := hid (fun W => ckI_no f m W h1)
    have HE := hid (dc_key (m := m) (l := l) h1)
    have HZ := hid (show (pcC (List.replicate 28 pt0)).length = 84 by rw [pcC_len, List.length_replicate])
    have HO1 := hid (pcC_one (List.replicate 28 pt0))
    obtain ⟨zs, hzs⟩ : ∃ zs, pcC (List.replicate 28 pt0) = zs := ⟨_, rfl⟩
    rw [hzs] at HCK HZ HO1 hz0
    clear hzs h h1 hA hs
    go_enter Tryd.func26, Tryd.ntmps26
    go_wp2_with (first | (go_at_call 65; apply own_at hO; (repeat (first | (with_reducible exact hO) | (with_reducible apply Own.alloc) | (with_reducible apply Own.drew) | ((with_reducible apply Own.set_at); (focus (show _ ≤ _; omega))))); have hG := hF; clear hF; clear hO; intro hO; refine own_call hO (fun hB => HCK.out _) ?_; clear hO; intro w1 hO; (try simp only [World.size_alloc1, World.size_drew, Nat.reduceAdd] at hO); (try simp only [upd, updI, List.map_cons, List.map_nil, eq_self, if_true, if_false, reduceIte, Nat.add_eq_left, Nat.left_eq_add, Nat.reduceEqDiff, List.set_cons_zero, List.set_cons_succ, hG] at hO); clear hG; have hF := hO; (try simp only [Own, Item.Holds, apartI, CellsAt, Nat.reduceAdd, Nat.zero_add, List.mem_cons, List.not_mem_nil, or_false, forall_eq_or_imp, forall_eq, ne_eq, false_imp_iff, implies_true, and_true] at hF)) | ((with_reducible (show wpList _ _ _ (⟨_, .alloc 89, _, _, _, _⟩ :: _) _ _)); apply own_list hO; (repeat (first | (with_reducible exact hO) | (with_reducible apply Own.alloc) | (with_reducible apply Own.drew) | ((with_reducible apply Own.set_at); (focus (show _ ≤ _; omega))))); have hG := hF; clear hF; clear hO; intro hO; (try simp only [World.size_alloc1, World.size_drew, Nat.reduceAdd] at hO); (try simp only [upd, updI, List.map_cons, List.map_nil, eq_self, if_true, if_false, reduceIte, Nat.add_eq_left, Nat.left_eq_add, Nat.reduceEqDiff, List.set_cons_zero, List.set_cons_succ, hG] at hO); clear hG; (try simp only [World.size_setCell] at hO); have hF := hO; (try simp only [Own, Item.Holds, apartI, CellsAt, Nat.reduceAdd, Nat.zero_add, List.mem_cons, List.not_mem_nil, or_false, forall_eq_or_imp, forall_eq, ne_eq, false_imp_iff, implies_true, and_true] at hF); refine wpList_alloc_arr (size := 3) (k := 28) rfl 89 rfl i0 hi0 hz0 (by rw [HZ.out]) (by unfold maxLen; omega) hO ?_; clear hO hF; intro q9 w9 hO; have hF := hO; (try simp only [Own, Item.Holds, apartI, CellsAt, Nat.reduceAdd, Nat.zero_add, List.mem_cons, List.not_mem_nil, or_false, forall_eq_or_imp, forall_eq, ne_eq, false_imp_iff, implies_true, and_true] at hF)) | ((with_reducible (show wpList _ _ _ (⟨_, .store 89 _ _, _, _, _, _⟩ :: _) _ _)); apply own_list hO; (repeat (first | (with_reducible exact hO) | (with_reducible apply Own.alloc) | (with_reducible apply Own.drew) | ((with_reducible apply Own.set_at); (focus (show _ ≤ _; omega))))); have hG := hF; clear hF; clear hO; intro hO; (try simp only [World.size_alloc1, World.size_drew, Nat.reduceAdd] at hO); (try simp only [upd, updI, List.map_cons, List.map_nil, eq_self, if_true, if_false, reduceIte, Nat.add_eq_left, Nat.left_eq_add, Nat.reduceEqDiff, List.set_cons_zero, List.set_cons_succ, hG] at hO); clear hG; (try simp only [World.size_setCell] at hO); have hF := hO; (try simp only [Own, Item.Holds, apartI, CellsAt, Nat.reduceAdd, Nat.zero_add, List.mem_cons, List.not_mem_nil, or_false, forall_eq_or_imp, forall_eq, ne_eq, false_imp_iff, implies_true, and_true] at hF); refine wpList_store_arr rfl 89 _ _ rfl rfl rfl hO (by rw [HZ.out]; exact sizeKc) HZ.out HO1.out ?_; clear hO hF; intro w8 hO; have hF := hO; (try simp only [Own, Item.Holds, apartI, CellsAt, Nat.reduceAdd, Nat.zero_add, List.mem_cons, List.not_mem_nil, or_false, forall_eq_or_imp, forall_eq, ne_eq, false_imp_iff, implies_true, and_true] at hF)))
    go_ret
    exact ⟨ret_int HE.out.symm, hO.base⟩
  · rw [h1, Bool.true_and] at h
    obtain ⟨f0, f1⟩ := keyB_iff.1 h1
    have HCK := hid (fun W (hW : Below w.heap.size w W) => ckI_in f m W (hA.below hW) f0 f1)
    have HLV := hid (lvI_is hnl hs hn h)
    have HE := hid (dc_bad (f := f) (m := m) (l := l) (by rw [hnl]; exact h))
    have HZ := hid (show (pcC (keT f m)).length = 84 by rw [pcC_len, keT_len])
    have HO1 := hid (pcC_one (keT f m))
    obtain ⟨K, hK⟩ : ∃ K, pcC (keT f m) = K := ⟨_, rfl⟩
    rw [hK] at HCK HZ HO1
    clear hA h h1 hK f0 f1 hs hnl
    go_enter Tryd.func26, Tryd.ntmps26
    go_wp2_with (first | (go_at_call 65; apply own_at hO; (repeat (first | (with_reducible exact hO) | (with_reducible apply Own.alloc) | (with_reducible apply Own.drew) | ((with_reducible apply Own.set_at); (focus (show _ ≤ _; omega))))); have hG := hF; clear hF; clear hO; intro hO; refine own_call hO (fun hB => HCK.out _ hB) ?_; clear hO; intro w1 hO; (try simp only [World.size_alloc1, World.size_drew, Nat.reduceAdd] at hO); (try simp only [upd, updI, List.map_cons, List.map_nil, eq_self, if_true, if_false, reduceIte, Nat.add_eq_left, Nat.left_eq_add, Nat.reduceEqDiff, List.set_cons_zero, List.set_cons_succ, hG] at hO); clear hG; have hF := hO; (try simp only [Own, Item.Holds, apartI, CellsAt, Nat.reduceAdd, Nat.zero_add, List.mem_cons, List.not_mem_nil, or_false, forall_eq_or_imp, forall_eq, ne_eq, false_imp_iff, implies_true, and_true] at hF)) | (go_at_call 57; apply own_at hO; (repeat (first | (with_reducible exact hO) | (with_reducible apply Own.alloc) | (with_reducible apply Own.drew) | ((with_reducible apply Own.set_at); (focus (show _ ≤ _; omega))))); have hG := hF; clear hF; clear hO; intro hO; refine own_call hO (fun hB => HLV.out _ hB) ?_; clear hO; intro w1 hO; (try simp only [World.size_alloc1, World.size_drew, Nat.reduceAdd] at hO); (try simp only [upd, updI, List.map_cons, List.map_nil, eq_self, if_true, if_false, reduceIte, Nat.add_eq_left, Nat.left_eq_add, Nat.reduceEqDiff, List.set_cons_zero, List.set_cons_succ, hG] at hO); clear hG; have hF := hO; (try simp only [Own, Item.Holds, apartI, CellsAt, Nat.reduceAdd, Nat.zero_add, List.mem_cons, List.not_mem_nil, or_false, forall_eq_or_imp, forall_eq, ne_eq, false_imp_iff, implies_true, and_true] at hF)) | ((with_reducible (show wpList _ _ _ (⟨_, .alloc 89, _, _, _, _⟩ :: _) _ _)); apply own_list hO; (repeat (first | (with_reducible exact hO) | (with_reducible apply Own.alloc) | (with_reducible apply Own.drew) | ((with_reducible apply Own.set_at); (focus (show _ ≤ _; omega))))); have hG := hF; clear hF; clear hO; intro hO; (try simp only [World.size_alloc1, World.size_drew, Nat.reduceAdd] at hO); (try simp only [upd, updI, List.map_cons, List.map_nil, eq_self, if_true, if_false, reduceIte, Nat.add_eq_left, Nat.left_eq_add, Nat.reduceEqDiff, List.set_cons_zero, List.set_cons_succ, hG] at hO); clear hG; (try simp only [World.size_setCell] at hO); have hF := hO; (try simp only [Own, Item.Holds, apartI, CellsAt, Nat.reduceAdd, Nat.zero_add, List.mem_cons, List.not_mem_nil, or_false, forall_eq_or_imp, forall_eq, ne_eq, false_imp_iff, implies_true, and_true] at hF); refine wpList_alloc_arr (size := 3) (k := 28) rfl 89 rfl i0 hi0 hz0 (by rw [pcC_len]; rfl) (by unfold maxLen; omega) hO ?_; clear hO hF; intro q9 w9 hO; have hF := hO; (try simp only [Own, Item.Holds, apartI, CellsAt, Nat.reduceAdd, Nat.zero_add, List.mem_cons, List.not_mem_nil, or_false, forall_eq_or_imp, forall_eq, ne_eq, false_imp_iff, implies_true, and_true] at hF)) | ((with_reducible (show wpList _ _ _ (⟨_, .store 89 _ _, _, _, _, _⟩ :: _) _ _)); apply own_list hO; (repeat (first | (with_reducible exact hO) | (with_reducible apply Own.alloc) | (with_reducible apply Own.drew) | ((with_reducible apply Own.set_at); (focus (show _ ≤ _; omega))))); have hG := hF; clear hF; clear hO; intro hO; (try simp only [World.size_alloc1, World.size_drew, Nat.reduceAdd] at hO); (try simp only [upd, updI, List.map_cons, List.map_nil, eq_self, if_true, if_false, reduceIte, Nat.add_eq_left, Nat.left_eq_add, Nat.reduceEqDiff, List.set_cons_zero, List.set_cons_succ, hG] at hO); clear hG; (try simp only [World.size_setCell] at hO); have hF := hO; (try simp only [Own, Item.Holds, apartI, CellsAt, Nat.reduceAdd, Nat.zero_add, List.mem_cons, List.not_mem_nil, or_false, forall_eq_or_imp, forall_eq, ne_eq, false_imp_iff, implies_true, and_true] at hF); refine wpList_store_arr rfl 89 _ _ rfl rfl rfl hO (by rw [HZ.out]; exact sizeKc) HZ.out HO1.out ?_; clear hO hF; intro w8 hO; have hF := hO; (try simp only [Own, Item.Holds, apartI, CellsAt, Nat.reduceAdd, Nat.zero_add, List.mem_cons, List.not_mem_nil, or_false, forall_eq_or_imp, forall_eq, ne_eq, false_imp_iff, implies_true, and_true] at hF)))
    go_ret
    exact ⟨ret_int HE.out.symm, hO.base⟩
theorem dcI_any (f : Int) (m : Bool) (va : Value) (l : List Pt) (w : World) (hA : TabA w) (hs : SlAt w va l.length 3 (pcC l)) (hn : l.length ≤ 1048576) :
    Calls Tryd.prog 26 #[.int .i64 f, .bool m, va] w fun e w' => e = .returned (.int .i64 (dcZ f m l)) ∧ Below w.heap.size w w' := by
  obtain ⟨n, hnl⟩ : ∃ n, l.length = n := ⟨_, rfl⟩
  rw [hnl] at hs hn
  cases h : keyB f && (l.all pvP && decide (n ≤ 12))
  · exact dcI_no f m va l n w hA hnl hs hn h
  · simp only [Bool.and_eq_true, decide_eq_true_eq] at h
    exact dcI_in f m va l n w hA hnl hs h.1 h.2.1 h.2.2
end Go.Proofs.YtjfmbklgkmkgjaaDoor
