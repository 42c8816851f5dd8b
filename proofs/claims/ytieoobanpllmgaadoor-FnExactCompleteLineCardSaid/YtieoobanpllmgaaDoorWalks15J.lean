/- Chapter 15 in the program: the choices for each tone. -/
import Derived.Test.YtieoobanpllmgaaDoorWalks15G
import Derived.Test.YtieoobanpllmgaaDoorOwnC
import Derived.Test.YtieoobanpllmgaaDoorRegionD
namespace Go.Proofs.YtieoobanpllmgaaDoor
set_option linter.unusedSimpArgs false
set_option linter.unusedVariables false
set_option maxRecDepth 8000
open Go.RowKit Go.Joins

/-- What completionOf leaves where a search is possible. -/
def CmpOut (f : Int) (va : Value) (c T : List Pt) (N : Nat) (w : World) (e : Ending) (w' : World) : Prop :=
  ∃ (ql cl qc cc : Nat) (l : List Pt) (es : List (Value × List Pt)), e = .returned (.tuple #[.agg #[.int .i64 f, va, .slice (some ⟨ql, 0, none⟩) N cl, .slice (some ⟨qc, 0, none⟩) N cc], .bool true]) ∧ (l.length = N ∧ (∀ x ∈ l, pvP x = true) ∧ lsO es = cfA T f c) ∧
    Own w.heap.size (Below w.heap.size w) w' (.row 37 3 (.slice (some ⟨ql, 0, none⟩) N cl) N (pcC l) :: .row 23 1 (.slice (some ⟨qc, 0, none⟩) N cc) N (vsO es) :: (rwP es ++ []))
/-- What it leaves where none is. -/
def CmpNo (w : World) (e : Ending) (w' : World) : Prop := e = .returned (.tuple #[.agg #[.int .i64 0, .slice none 0 0, .slice none 0 0, .slice none 0 0], .bool false]) ∧ Below w.heap.size w w'

theorem soB_no {f lo hi : Int} {c : List Pt} : soB f c lo hi = (cvB f c && ((inB lo 0 107 && inB hi lo 107) && decide (hi - lo ≤ 30))) := by
  unfold soB
  rw [Bool.and_assoc]

set_option maxRecDepth 20000 in
set_option maxHeartbeats 4000000 in
theorem cmI_no (f lo hi : Int) (va : Value) (c : List Pt) (w : World) (hs : SlAt w va c.length 3 (pcC c)) (hn : c.length ≤ 1048576) (hA9 : TabA w) (hb : soB f c lo hi = false) :
    Calls Tryd.prog 30 #[.int .i64 f, va, .int .i64 lo, .int .i64 hi] w (CmpNo w) := by
  have hO := Own.start w
  have hF := True.intro
  obtain ⟨b1, h1⟩ : ∃ b, cvB f c = b := ⟨_, rfl⟩
  obtain ⟨b2, h2⟩ : ∃ b, (inB lo 0 107 && inB hi lo 107) = b := ⟨_, rfl⟩
  have H1 := hid (fun W (hW : Below w.heap.size w W) => cvI_is rfl hs hn hA9 h1 W hW)
  have H2 := hid (fun W => krI_is h2 W)
  obtain ⟨A, ca, rfl, nb, _⟩ := hs.open
  obtain ⟨n, hn9⟩ : ∃ n, c.length = n := ⟨_, rfl⟩
  rw [hn9] at H1 ⊢
  rw [soB_no, h1, h2] at hb
  cases b1
  · clear hs h1 h2 hn hn9 hb hA9
    go_enter Tryd.func30, Tryd.ntmps30
    go_wp2_with (go_at_call 49; apply own_at hO; (repeat (first | (with_reducible exact hO) | (with_reducible apply Own.alloc) | (with_reducible apply Own.drew) | ((with_reducible apply Own.set_at); (focus (show _ ≤ _; omega))))); have hG := hF; clear hF; clear hO; intro hO; refine own_call hO (fun hB => H1.out _ hB) ?_; clear hO; intro w1 hO; (try simp only [World.size_alloc1, World.size_drew, Nat.reduceAdd] at hO); (try simp only [upd, updI, List.map_cons, List.map_nil, eq_self, if_true, if_false, reduceIte, Nat.add_eq_left, Nat.left_eq_add, Nat.reduceEqDiff, List.set_cons_zero, List.set_cons_succ, hG] at hO); clear hG; have hF := hO; (try simp only [Own, Item.Holds, apartI, CellsAt, Nat.reduceAdd, Nat.zero_add, List.mem_cons, List.not_mem_nil, or_false, forall_eq_or_imp, forall_eq, ne_eq, false_imp_iff, implies_true, and_true] at hF))
    apply own_end hO
    (repeat (first | (with_reducible exact hO) | (with_reducible apply Own.alloc) | (with_reducible apply Own.drew) | ((with_reducible apply Own.set_at); (focus (show _ ≤ _; omega)))))
    have hG := hF; clear hF; clear hO; intro hO
    refine own_ret (v := .tuple #[.agg #[.int .i64 0, .slice none 0 0, .slice none 0 0, .slice none 0 0], .bool false]) hO ?_ rfl (fun hO => ⟨rfl, hO.base⟩)
    clear hO; intro w1 hO
    (try simp only [World.size_alloc1, World.size_drew, Nat.reduceAdd] at hO); (try simp only [upd, updI, List.map_cons, List.map_nil, eq_self, if_true, if_false, reduceIte, Nat.add_eq_left, Nat.left_eq_add, Nat.reduceEqDiff, List.set_cons_zero, List.set_cons_succ, hG] at hO); clear hG
    have hF := hO; (try simp only [Own, Item.Holds, apartI, CellsAt, Nat.reduceAdd, Nat.zero_add, List.mem_cons, List.not_mem_nil, or_false, forall_eq_or_imp, forall_eq, ne_eq, false_imp_iff, implies_true, and_true] at hF)
    simp [results, Tryd.results30, go_sem, hF]
  · cases b2
    · clear hs h1 h2 hn hn9 hb hA9
      go_enter Tryd.func30, Tryd.ntmps30
      go_wp2_with (first | (go_at_call 49; apply own_at hO; (repeat (first | (with_reducible exact hO) | (with_reducible apply Own.alloc) | (with_reducible apply Own.drew) | ((with_reducible apply Own.set_at); (focus (show _ ≤ _; omega))))); have hG := hF; clear hF; clear hO; intro hO; refine own_call hO (fun hB => H1.out _ hB) ?_; clear hO; intro w1 hO; (try simp only [World.size_alloc1, World.size_drew, Nat.reduceAdd] at hO); (try simp only [upd, updI, List.map_cons, List.map_nil, eq_self, if_true, if_false, reduceIte, Nat.add_eq_left, Nat.left_eq_add, Nat.reduceEqDiff, List.set_cons_zero, List.set_cons_succ, hG] at hO); clear hG; have hF := hO; (try simp only [Own, Item.Holds, apartI, CellsAt, Nat.reduceAdd, Nat.zero_add, List.mem_cons, List.not_mem_nil, or_false, forall_eq_or_imp, forall_eq, ne_eq, false_imp_iff, implies_true, and_true] at hF)) | (go_at_call 50; apply own_at hO; (repeat (first | (with_reducible exact hO) | (with_reducible apply Own.alloc) | (with_reducible apply Own.drew) | ((with_reducible apply Own.set_at); (focus (show _ ≤ _; omega))))); have hG := hF; clear hF; clear hO; intro hO; refine own_call hO (fun hB => H2.out _) ?_; clear hO; intro w1 hO; (try simp only [World.size_alloc1, World.size_drew, Nat.reduceAdd] at hO); (try simp only [upd, updI, List.map_cons, List.map_nil, eq_self, if_true, if_false, reduceIte, Nat.add_eq_left, Nat.left_eq_add, Nat.reduceEqDiff, List.set_cons_zero, List.set_cons_succ, hG] at hO); clear hG; have hF := hO; (try simp only [Own, Item.Holds, apartI, CellsAt, Nat.reduceAdd, Nat.zero_add, List.mem_cons, List.not_mem_nil, or_false, forall_eq_or_imp, forall_eq, ne_eq, false_imp_iff, implies_true, and_true] at hF)))
      apply own_end hO
      (repeat (first | (with_reducible exact hO) | (with_reducible apply Own.alloc) | (with_reducible apply Own.drew) | ((with_reducible apply Own.set_at); (focus (show _ ≤ _; omega)))))
      have hG := hF; clear hF; clear hO; intro hO
      refine own_ret (v := .tuple #[.agg #[.int .i64 0, .slice none 0 0, .slice none 0 0, .slice none 0 0], .bool false]) hO ?_ rfl (fun hO => ⟨rfl, hO.base⟩)
      clear hO; intro w1 hO
      (try simp only [World.size_alloc1, World.size_drew, Nat.reduceAdd] at hO); (try simp only [upd, updI, List.map_cons, List.map_nil, eq_self, if_true, if_false, reduceIte, Nat.add_eq_left, Nat.left_eq_add, Nat.reduceEqDiff, List.set_cons_zero, List.set_cons_succ, hG] at hO); clear hG
      have hF := hO; (try simp only [Own, Item.Holds, apartI, CellsAt, Nat.reduceAdd, Nat.zero_add, List.mem_cons, List.not_mem_nil, or_false, forall_eq_or_imp, forall_eq, ne_eq, false_imp_iff, implies_true, and_true] at hF)
      simp [results, Tryd.results30, go_sem, hF]
    · rw [Bool.and_eq_true, inB_iff, inB_iff] at h2
      have hd : 30 < hi - lo := by simpa using hb
      have wd : IntKind.i64.wrap (hi - lo) = hi - lo := IntWalk.i64_in _ (by omega)
      obtain ⟨d, hd9⟩ : ∃ d, hi - lo = d := ⟨_, rfl⟩
      rw [hd9] at wd hd
      clear hs h1 h2 hn hn9 hb hA9
      go_enter Tryd.func30, Tryd.ntmps30
      go_wp2_with (first | (go_at_call 49; apply own_at hO; (repeat (first | (with_reducible exact hO) | (with_reducible apply Own.alloc) | (with_reducible apply Own.drew) | ((with_reducible apply Own.set_at); (focus (show _ ≤ _; omega))))); have hG := hF; clear hF; clear hO; intro hO; refine own_call hO (fun hB => H1.out _ hB) ?_; clear hO; intro w1 hO; (try simp only [World.size_alloc1, World.size_drew, Nat.reduceAdd] at hO); (try simp only [upd, updI, List.map_cons, List.map_nil, eq_self, if_true, if_false, reduceIte, Nat.add_eq_left, Nat.left_eq_add, Nat.reduceEqDiff, List.set_cons_zero, List.set_cons_succ, hG] at hO); clear hG; have hF := hO; (try simp only [Own, Item.Holds, apartI, CellsAt, Nat.reduceAdd, Nat.zero_add, List.mem_cons, List.not_mem_nil, or_false, forall_eq_or_imp, forall_eq, ne_eq, false_imp_iff, implies_true, and_true] at hF)) | (go_at_call 50; apply own_at hO; (repeat (first | (with_reducible exact hO) | (with_reducible apply Own.alloc) | (with_reducible apply Own.drew) | ((with_reducible apply Own.set_at); (focus (show _ ≤ _; omega))))); have hG := hF; clear hF; clear hO; intro hO; refine own_call hO (fun hB => H2.out _) ?_; clear hO; intro w1 hO; (try simp only [World.size_alloc1, World.size_drew, Nat.reduceAdd] at hO); (try simp only [upd, updI, List.map_cons, List.map_nil, eq_self, if_true, if_false, reduceIte, Nat.add_eq_left, Nat.left_eq_add, Nat.reduceEqDiff, List.set_cons_zero, List.set_cons_succ, hG] at hO); clear hG; have hF := hO; (try simp only [Own, Item.Holds, apartI, CellsAt, Nat.reduceAdd, Nat.zero_add, List.mem_cons, List.not_mem_nil, or_false, forall_eq_or_imp, forall_eq, ne_eq, false_imp_iff, implies_true, and_true] at hF)))
      apply own_end hO
      (repeat (first | (with_reducible exact hO) | (with_reducible apply Own.alloc) | (with_reducible apply Own.drew) | ((with_reducible apply Own.set_at); (focus (show _ ≤ _; omega)))))
      have hG := hF; clear hF; clear hO; intro hO
      refine own_ret (v := .tuple #[.agg #[.int .i64 0, .slice none 0 0, .slice none 0 0, .slice none 0 0], .bool false]) hO ?_ rfl (fun hO => ⟨rfl, hO.base⟩)
      clear hO; intro w1 hO
      (try simp only [World.size_alloc1, World.size_drew, Nat.reduceAdd] at hO); (try simp only [upd, updI, List.map_cons, List.map_nil, eq_self, if_true, if_false, reduceIte, Nat.add_eq_left, Nat.left_eq_add, Nat.reduceEqDiff, List.set_cons_zero, List.set_cons_succ, hG] at hO); clear hG
      have hF := hO; (try simp only [Own, Item.Holds, apartI, CellsAt, Nat.reduceAdd, Nat.zero_add, List.mem_cons, List.not_mem_nil, or_false, forall_eq_or_imp, forall_eq, ne_eq, false_imp_iff, implies_true, and_true] at hF)
      simp [results, Tryd.results30, go_sem, hF]

/-- The choices as far as they have come. -/
def cfP (T : List Pt) (f : Int) (c : List Pt) (N k : Nat) : List (List Pt) := (List.range N).map fun r => if r < k then cfL T f c r else []
theorem cfP_zero (T : List Pt) (f : Int) (c : List Pt) (N : Nat) : cfP T f c N 0 = List.replicate N [] := by
  unfold cfP
  refine List.ext_getElem? fun r => ?_
  rw [List.getElem?_map, List.getElem?_replicate]
  by_cases h : r < N
  · rw [List.getElem?_range h, if_pos h]; rfl
  · rw [List.getElem?_eq_none (by simp; omega), if_neg h]; rfl
theorem cfP_full (T : List Pt) (f : Int) (c : List Pt) : cfP T f c c.length c.length = cfA T f c := by
  unfold cfP cfA
  refine List.map_congr_left fun r hr => ?_
  rw [if_pos (List.mem_range.1 hr)]
theorem cfP_len (T : List Pt) (f : Int) (c : List Pt) (N k : Nat) : (cfP T f c N k).length = N := by simp [cfP]
theorem cfP_step {T : List Pt} {f : Int} {c : List Pt} {N k : Nat} {es : List (Value × List Pt)} (h : lsO es = cfP T f c N k) (hk : k < N) : ∃ U V v, es = U ++ (v, []) :: V ∧ U.length = k ∧ ∀ v', lsO (U ++ (v', cfL T f c k) :: V) = cfP T f c N (k + 1) := by
  have hl : es.length = N := by
    have := congrArg List.length h
    rwa [List.length_map, cfP_len] at this
  obtain ⟨⟨v, r⟩, hp⟩ : ∃ p, es[k]? = some p := ⟨_, List.getElem?_eq_getElem (by omega)⟩
  have hr : r = [] := by
    have h1 : (lsO es)[k]? = some r := by rw [List.getElem?_map, hp]; rfl
    rw [h] at h1
    unfold cfP at h1
    rw [List.getElem?_map, List.getElem?_range hk] at h1
    simpa using h1.symm
  subst hr
  obtain ⟨U, V, rfl, hU⟩ := split15 hp
  refine ⟨U, V, v, rfl, hU, fun v' => ?_⟩
  have e1 : lsO (U ++ (v', cfL T f c k) :: V) = (lsO (U ++ (v, []) :: V)).set k (cfL T f c k) := by
    subst hU
    simp
  rw [e1, h]
  refine List.ext_getElem? fun r => ?_
  by_cases hr : k = r
  · subst hr
    rw [List.getElem?_set_self (by rw [cfP_len]; exact hk)]
    unfold cfP
    rw [List.getElem?_map, List.getElem?_range hk]
    simp
  · rw [List.getElem?_set_ne hr]
    unfold cfP
    rw [List.getElem?_map, List.getElem?_map]
    by_cases h2 : r < N
    · rw [List.getElem?_range h2]
      show some (if r < k then cfL T f c r else []) = some (if r < k + 1 then cfL T f c r else [])
      by_cases h3 : r < k
      · rw [if_pos h3, if_pos (by omega)]
      · rw [if_neg h3, if_neg (by omega)]
    · rw [List.getElem?_eq_none (by simp; omega)]
      rfl

set_option maxRecDepth 20000 in
set_option maxHeartbeats 16000000 in
theorem cmI_yes (f lo hi : Int) (va : Value) (c T : List Pt) (N : Nat) (w : World) (hs : SlAt w va N 3 (pcC c)) (hNl : c.length = N) (hT9 : TabH w) (hA9 : TabA w) (hb : soB f c lo hi = true) (hT : tsL f lo hi = T) :
    Calls Tryd.prog 30 #[.int .i64 f, va, .int .i64 lo, .int .i64 hi] w (CmpOut f va c T N w) := by
  have hO := Own.start w
  have hF := True.intro
  obtain ⟨i0, hi0, hz0, hz1, hz2⟩ := info_parts infoPi
  obtain ⟨i1, hi1, hy0, hy1, hy2⟩ := info_parts infoSt
  obtain ⟨hcv, hlo, hhi, hd⟩ := soB_iff.1 hb
  obtain ⟨c1, c2, c3, hkf⟩ := cvB_iff.1 hcv
  have hpc : ∀ x ∈ c, pvP x = true := fun x hx => (ikP_iff.1 (c1 x hx)).2.1
  obtain ⟨t, ht⟩ : ∃ t, T.length = t := ⟨_, rfl⟩
  have ht63 : t ≤ 63 := by rw [← ht, ← hT]; exact tnL_len _ _ _
  have HTP := hid (show ∀ x ∈ T, pvP x = true from fun x hx => by rw [← hT] at hx; exact (tn_pv hlo.1 hx).1)
  have HT9 := hid hT9
  have HA9 := hid hA9
  have H1 := hid (fun W (hW : Below w.heap.size w W) => cvI_is hNl hs (by omega) hA9 hcv W hW)
  have H2 := hid (fun W => krI_is (show (inB lo 0 107 && inB hi lo 107) = true by rw [Bool.and_eq_true, inB_iff, inB_iff]; exact ⟨hlo, hhi⟩) W)
  have H3 := hid (fun W (hW : Below w.heap.size w W) => pbI_is hkf hlo.1 hhi.1 hT9 hA9 hT ht W hW)
  have HB := hid (show ∀ W, Below w.heap.size w W → CtAt W f va c N from fun W hW => ⟨hNl, hs.below hW, hpc, by omega, by omega, hT9.below hW, hA9.below hW⟩)
  have HNL := hid hNl
  have HTL := hid ht
  have hN2 : 2 ≤ N := by omega
  have hN10 : N ≤ 10 := by omega
  have wd : IntKind.i64.wrap (hi - lo) = hi - lo := IntWalk.i64_in _ (by omega)
  have hd2 : ¬ 30 < hi - lo := by omega
  obtain ⟨A, ca, rfl, nb, hA⟩ := hs.open
  obtain ⟨b1, o1, rfl, _, _, hb1⟩ := hA (by omega)
  clear hs hNl hT9 hA9 hb hT hcv hlo hhi c1 c2 c3 hkf hpc ht hA hd
  go_enter Tryd.func30, Tryd.ntmps30
  go_wp2_with (first | (go_at_call 49; apply own_at hO; (repeat (first | (with_reducible exact hO) | (with_reducible apply Own.alloc) | (with_reducible apply Own.drew) | ((with_reducible apply Own.set_at); (focus (show _ ≤ _; omega))))); have hG := hF; clear hF; clear hO; intro hO; refine own_call hO (fun hB => H1.out _ hB) ?_; clear hO; intro w1 hO; (try simp only [World.size_alloc1, World.size_drew, Nat.reduceAdd] at hO); (try simp only [upd, updI, List.map_cons, List.map_nil, eq_self, if_true, if_false, reduceIte, Nat.add_eq_left, Nat.left_eq_add, Nat.reduceEqDiff, List.set_cons_zero, List.set_cons_succ, hG] at hO); clear hG; have hF := hO; (try simp only [Own, Item.Holds, apartI, CellsAt, Nat.reduceAdd, Nat.zero_add, List.mem_cons, List.not_mem_nil, or_false, forall_eq_or_imp, forall_eq, ne_eq, false_imp_iff, implies_true, and_true] at hF)) | (go_at_call 50; apply own_at hO; (repeat (first | (with_reducible exact hO) | (with_reducible apply Own.alloc) | (with_reducible apply Own.drew) | ((with_reducible apply Own.set_at); (focus (show _ ≤ _; omega))))); have hG := hF; clear hF; clear hO; intro hO; refine own_call hO (fun hB => H2.out _) ?_; clear hO; intro w1 hO; (try simp only [World.size_alloc1, World.size_drew, Nat.reduceAdd] at hO); (try simp only [upd, updI, List.map_cons, List.map_nil, eq_self, if_true, if_false, reduceIte, Nat.add_eq_left, Nat.left_eq_add, Nat.reduceEqDiff, List.set_cons_zero, List.set_cons_succ, hG] at hO); clear hG; have hF := hO; (try simp only [Own, Item.Holds, apartI, CellsAt, Nat.reduceAdd, Nat.zero_add, List.mem_cons, List.not_mem_nil, or_false, forall_eq_or_imp, forall_eq, ne_eq, false_imp_iff, implies_true, and_true] at hF)))
  (apply own_code hO; (repeat (first | (with_reducible exact hO) | (with_reducible apply Own.alloc) | (with_reducible apply Own.drew) | ((with_reducible apply Own.set_at); (focus (show _ ≤ _; omega))))); have hG := hF; clear hF; clear hO; intro hO; (try simp only [World.size_alloc1, World.size_drew, Nat.reduceAdd] at hO); (try simp only [upd, updI, List.map_cons, List.map_nil, eq_self, if_true, if_false, reduceIte, Nat.add_eq_left, Nat.left_eq_add, Nat.reduceEqDiff, List.set_cons_zero, List.set_cons_succ, hG] at hO); clear hG; have hF := hO; (try simp only [Own, Item.Holds, apartI, CellsAt, Nat.reduceAdd, Nat.zero_add, List.mem_cons, List.not_mem_nil, or_false, forall_eq_or_imp, forall_eq, ne_eq, false_imp_iff, implies_true, and_true] at hF))
  clear hF
  revert hO
  apply one_way15 (fun ql qc qa W => Own w.heap.size (Below w.heap.size w) W [.blk qa [.int .i64 f, .slice (some ⟨b1, o1, none⟩) N ca, .slice (some ⟨ql, 0, none⟩) N N, .slice (some ⟨qc, 0, none⟩) N N], .row 37 3 (.slice (some ⟨ql, 0, none⟩) N N) N (pcC (List.replicate N pt0)), .row 23 1 (.slice (some ⟨qc, 0, none⟩) N N) N (List.replicate N (.slice none 0 0)), .blk w.heap.size [.int .i64 0, .slice none 0 0, .slice none 0 0, .slice none 0 0]])
  · intro key hO
    have hF := True.intro
    apply own_code hO
    (repeat (first | (with_reducible exact hO) | (with_reducible apply Own.alloc) | (with_reducible apply Own.drew) | ((with_reducible apply Own.set_at); (focus (show _ ≤ _; omega)))))
    have hG := hF; clear hF; clear hO; intro hO
    (try simp only [World.size_alloc1, World.size_drew, Nat.reduceAdd] at hO); (try simp only [upd, updI, List.map_cons, List.map_nil, eq_self, if_true, if_false, reduceIte, Nat.add_eq_left, Nat.left_eq_add, Nat.reduceEqDiff, List.set_cons_zero, List.set_cons_succ, hG] at hO); clear hG
    refine region_own (X := fun _ => True) [4, 8, 10, 11] (by kernel_rfl) (hO) (trivial) (by first | exact XStab.true | exact XStab.rd | exact XStab.rdIf) ?_
    clear hO
    refine Sim.sP (i := 0) (d := some 32) (h := ?_)
    refine Sim.sP (i := 1) (d := some 33) (h := ?_)
    refine Sim.sP (i := 2) (d := some 34) (h := ?_)
    refine Sim.sP (i := 6) (d := some 38) (h := ?_)
    refine Sim.many (rs := [3, 7, 10]) (by kernel_rfl) (by decide) ?_
    refine AllS.cons (oi := { dst := some 35, op := Op.call { callee := Callee.builtin Builtin.len, args := #[Operand.tmp 34], argTypes := #[23] }, type := 3, pos := "l15_completion.go:45", after := #[{ on := 2, ground := Ground.data }], guard := none }) rfl (by rfl) (fun w0 hO hX K hK => ?_) ?_
    rotate_left
    refine AllS.cons (oi := { dst := some 39, op := Op.call { callee := Callee.builtin Builtin.len, args := #[Operand.tmp 38], argTypes := #[23] }, type := 3, pos := "l15_completion.go:45", after := #[{ on := 6, ground := Ground.data }], guard := none }) rfl (by rfl) (fun w0 hO hX K hK => ?_) ?_
    rotate_left
    refine AllS.cons (oi := { dst := some 10, op := Op.alloc 52, type := 0, pos := "l15_completion.go:45", after := #[], guard := none }) rfl (by rfl) (fun w0 hO hX K hK => ?_) ?_
    rotate_left
    exact AllS.nil
    rotate_right 3
    have hF := hO; (try simp only [Own, Item.Holds, apartI, CellsAt, Nat.reduceAdd, Nat.zero_add, List.mem_cons, List.not_mem_nil, or_false, forall_eq_or_imp, forall_eq, ne_eq, false_imp_iff, implies_true, and_true] at hF)
    go_simp
    apply hK _ _ _ (fun _ => True)
    (repeat (first | (with_reducible exact hO) | (with_reducible apply Own.alloc) | (with_reducible apply Own.drew) | ((with_reducible apply Own.set_at); (focus (show _ ≤ _; omega)))))
    · first | exact trivial | exact hX | exact hX.below (below1 _) | exact RdIf.gone | exact hX.keep ((Below.refl _ _).setCell (by first | omega | (dsimp only; omega)) _)
    · exact (by first | exact XStab.true | exact XStab.rd | exact XStab.rdIf)
    · first | exact fun _ _ h => h.2 | exact fun _ _ h => h | exact fun h => absurd h (by decide)
    try simp only [upd, updI, List.map_cons, List.map_nil, eq_self, if_true, if_false, reduceIte, Nat.add_eq_left, Nat.left_eq_add, Nat.reduceEqDiff, List.set_cons_zero, List.set_cons_succ, hF]
    clear hK K hF hO
    try simp only [Act.put, List.setIfInBounds_toArray, List.set_cons_zero, List.set_cons_succ]
    refine Sim.many (rs := [4, 7, 10]) (by kernel_rfl) (by decide) ?_
    refine AllS.cons (oi := { dst := some 36, op := Op.makeSlice 23 (Operand.tmp 35) (Operand.tmp 35), type := 23, pos := "l15_completion.go:45", after := #[{ on := 3, ground := Ground.data }, { on := 3, ground := Ground.data }], guard := none }) rfl (by rfl) (fun w0 hO hX K hK => ?_) ?_
    rotate_left
    refine AllS.cons (oi := { dst := some 39, op := Op.call { callee := Callee.builtin Builtin.len, args := #[Operand.tmp 38], argTypes := #[23] }, type := 3, pos := "l15_completion.go:45", after := #[{ on := 6, ground := Ground.data }], guard := none }) rfl (by rfl) (fun w0 hO hX K hK => ?_) ?_
    rotate_left
    refine AllS.cons (oi := { dst := some 10, op := Op.alloc 52, type := 0, pos := "l15_completion.go:45", after := #[], guard := none }) rfl (by rfl) (fun w0 hO hX K hK => ?_) ?_
    rotate_left
    exact AllS.nil
    rotate_right 3
    (have hF := hO; (try simp only [Own, Item.Holds, apartI, CellsAt, Nat.reduceAdd, Nat.zero_add, List.mem_cons, List.not_mem_nil, or_false, forall_eq_or_imp, forall_eq, ne_eq, false_imp_iff, implies_true, and_true] at hF))
    refine wp_make15 _ _ 23 rfl 37 i0 (.agg #[.int .i64 0, .int .i64 0, .int .i64 0]) 3 24 Tryd.underlying23 hi0 hz0 hz1 hz2 N rfl rfl (by omega) (by unfold maxLen; omega) hO ?_
    intro ql wl hO2
    rw [madeP] at hO2
    apply hK _ _ _ (fun _ => True)
    · exact hO2
    · exact trivial
    · exact XStab.true
    · exact fun h => absurd h (by decide)
    clear hO hO2 hF
    clear hK K
    try simp only [Act.put, List.setIfInBounds_toArray, List.set_cons_zero, List.set_cons_succ]
    refine Sim.sP (i := 5) (d := some 37) (h := ?_)
    refine Sim.many (rs := [7, 10]) (by kernel_rfl) (by decide) ?_
    refine AllS.cons (oi := { dst := some 39, op := Op.call { callee := Callee.builtin Builtin.len, args := #[Operand.tmp 38], argTypes := #[23] }, type := 3, pos := "l15_completion.go:45", after := #[{ on := 6, ground := Ground.data }], guard := none }) rfl (by rfl) (fun w0 hO hX K hK => ?_) ?_
    rotate_left
    refine AllS.cons (oi := { dst := some 10, op := Op.alloc 52, type := 0, pos := "l15_completion.go:45", after := #[], guard := none }) rfl (by rfl) (fun w0 hO hX K hK => ?_) ?_
    rotate_left
    exact AllS.nil
    rotate_right 2
    have hF := hO; (try simp only [Own, Item.Holds, apartI, CellsAt, Nat.reduceAdd, Nat.zero_add, List.mem_cons, List.not_mem_nil, or_false, forall_eq_or_imp, forall_eq, ne_eq, false_imp_iff, implies_true, and_true] at hF)
    go_simp
    apply hK _ _ _ (fun _ => True)
    (repeat (first | (with_reducible exact hO) | (with_reducible apply Own.alloc) | (with_reducible apply Own.drew) | ((with_reducible apply Own.set_at); (focus (show _ ≤ _; omega)))))
    · first | exact trivial | exact hX | exact hX.below (below1 _) | exact RdIf.gone | exact hX.keep ((Below.refl _ _).setCell (by first | omega | (dsimp only; omega)) _)
    · exact (by first | exact XStab.true | exact XStab.rd | exact XStab.rdIf)
    · first | exact fun _ _ h => h.2 | exact fun _ _ h => h | exact fun h => absurd h (by decide)
    try simp only [upd, updI, List.map_cons, List.map_nil, eq_self, if_true, if_false, reduceIte, Nat.add_eq_left, Nat.left_eq_add, Nat.reduceEqDiff, List.set_cons_zero, List.set_cons_succ, hF]
    clear hK K hF hO
    try simp only [Act.put, List.setIfInBounds_toArray, List.set_cons_zero, List.set_cons_succ]
    refine Sim.many (rs := [8, 10]) (by kernel_rfl) (by decide) ?_
    refine AllS.cons (oi := { dst := some 40, op := Op.makeSlice 50 (Operand.tmp 39) (Operand.tmp 39), type := 50, pos := "l15_completion.go:45", after := #[{ on := 7, ground := Ground.data }, { on := 7, ground := Ground.data }], guard := none }) rfl (by rfl) (fun w0 hO hX K hK => ?_) ?_
    rotate_left
    refine AllS.cons (oi := { dst := some 10, op := Op.alloc 52, type := 0, pos := "l15_completion.go:45", after := #[], guard := none }) rfl (by rfl) (fun w0 hO hX K hK => ?_) ?_
    rotate_left
    exact AllS.nil
    rotate_right 2
    (have hF := hO; (try simp only [Own, Item.Holds, apartI, CellsAt, Nat.reduceAdd, Nat.zero_add, List.mem_cons, List.not_mem_nil, or_false, forall_eq_or_imp, forall_eq, ne_eq, false_imp_iff, implies_true, and_true] at hF))
    refine wp_make15 _ _ 50 rfl 23 i1 (.slice none 0 0) 1 24 Tryd.underlying50 hi1 hy0 hy1 hy2 N rfl rfl (by omega) (by unfold maxLen; omega) hO ?_
    intro qc wc hO2
    rw [madeSt] at hO2
    apply hK _ _ _ (fun _ => True)
    · exact hO2
    · exact trivial
    · exact XStab.true
    · exact fun h => absurd h (by decide)
    clear hO hO2 hF
    clear hK K
    try simp only [Act.put, List.setIfInBounds_toArray, List.set_cons_zero, List.set_cons_succ]
    refine Sim.sP (i := 9) (d := some 41) (h := ?_)
    refine Sim.one' (i := 10) (oi := { dst := some 10, op := Op.alloc 52, type := 0, pos := "l15_completion.go:45", after := #[], guard := none }) (by kernel_rfl) rfl (by rfl) (fun w0 hO hX K hK => ?_)
    (have hF := hO; (try simp only [Own, Item.Holds, apartI, CellsAt, Nat.reduceAdd, Nat.zero_add, List.mem_cons, List.not_mem_nil, or_false, forall_eq_or_imp, forall_eq, ne_eq, false_imp_iff, implies_true, and_true] at hF))
    go_simp
    obtain ⟨qa, hqa⟩ : ∃ q, w0.heap.size = q := ⟨_, rfl⟩
    have hO2 := hO.alloc (t := 52) (vs := [.int .i64 0, .slice none 0 0, .slice none 0 0, .slice none 0 0])
    rw [hqa] at hO2 ⊢
    apply hK _ _ _ (fun _ => True)
    · exact hO2
    · exact trivial
    · exact XStab.true
    · exact fun h => absurd h (by decide)
    clear hO hO2 hF hqa
    clear hK K
    try simp only [Act.put, List.setIfInBounds_toArray, List.set_cons_zero, List.set_cons_succ]
    refine Sim.one' (i := 11) (oi := { dst := none, op := Op.store 52 (Operand.tmp 10) (Operand.tmp 41), type := 0, pos := "l15_completion.go:45", after := #[{ on := 10, ground := Ground.data }, { on := 9, ground := Ground.data }, { on := 0, ground := Ground.phase }, { on := 1, ground := Ground.phase }, { on := 2, ground := Ground.phase }, { on := 3, ground := Ground.phase }, { on := 4, ground := Ground.phase }, { on := 5, ground := Ground.phase }, { on := 6, ground := Ground.phase }, { on := 7, ground := Ground.phase }, { on := 8, ground := Ground.phase }, { on := 9, ground := Ground.phase }, { on := 10, ground := Ground.phase }], guard := none }) (by kernel_rfl) rfl (by rfl) (fun w0 hO hX K hK => ?_)
    have hF := hO; (try simp only [Own, Item.Holds, apartI, CellsAt, Nat.reduceAdd, Nat.zero_add, List.mem_cons, List.not_mem_nil, or_false, forall_eq_or_imp, forall_eq, ne_eq, false_imp_iff, implies_true, and_true] at hF); (skip)
    go_simp
    apply hK _ _ _ (fun _ => True)
    (repeat (first | (with_reducible exact hO) | (with_reducible apply Own.alloc) | (with_reducible apply Own.drew) | ((with_reducible apply Own.set_at); (focus (show _ ≤ _; omega)))))
    · first | exact trivial | exact hX | exact hX.below (below1 _) | exact RdIf.gone | exact hX.keep ((Below.refl _ _).setCell (by first | omega | (dsimp only; omega)) _)
    · exact (by first | exact XStab.true | exact XStab.rd | exact XStab.rdIf)
    · first | exact fun _ _ h => h.2 | exact fun _ _ h => h | exact fun h => absurd h (by decide)
    try simp only [upd, updI, List.map_cons, List.map_nil, eq_self, if_true, if_false, reduceIte, Nat.add_eq_left, Nat.left_eq_add, Nat.reduceEqDiff, List.set_cons_zero, List.set_cons_succ, hF]
    clear hK K hF hO
    try simp only [Act.put, List.setIfInBounds_toArray, List.set_cons_zero, List.set_cons_succ]
    refine Sim.done (by kernel_rfl) (fun w1 hO hX => ?_) _
    (try simp only [World.size_alloc1, World.size_drew, Nat.reduceAdd] at hO); (try simp only [upd, updI, List.map_cons, List.map_nil, eq_self, if_true, if_false, reduceIte, Nat.add_eq_left, Nat.left_eq_add, Nat.reduceEqDiff, List.set_cons_zero, List.set_cons_succ] at hO)
    have hF := hO; (try simp only [Own, Item.Holds, apartI, CellsAt, Nat.reduceAdd, Nat.zero_add, List.mem_cons, List.not_mem_nil, or_false, forall_eq_or_imp, forall_eq, ne_eq, false_imp_iff, implies_true, and_true] at hF)
    rotate_left 1
    (have hF := hO; (try simp only [Own, Item.Holds, apartI, CellsAt, Nat.reduceAdd, Nat.zero_add, List.mem_cons, List.not_mem_nil, or_false, forall_eq_or_imp, forall_eq, ne_eq, false_imp_iff, implies_true, and_true] at hF))
    go_simp
    obtain ⟨qa, hqa⟩ : ∃ q, w0.heap.size = q := ⟨_, rfl⟩
    have hO2 := hO.alloc (t := 52) (vs := [.int .i64 0, .slice none 0 0, .slice none 0 0, .slice none 0 0])
    rw [hqa] at hO2 ⊢
    apply hK _ _ _ (fun _ => True)
    · exact hO2
    · exact trivial
    · exact XStab.true
    · exact fun h => absurd h (by decide)
    clear hO hO2 hF hqa
    clear hK K
    try simp only [Act.put, List.setIfInBounds_toArray, List.set_cons_zero, List.set_cons_succ]
    refine Sim.one' (i := 8) (oi := { dst := some 40, op := Op.makeSlice 50 (Operand.tmp 39) (Operand.tmp 39), type := 50, pos := "l15_completion.go:45", after := #[{ on := 7, ground := Ground.data }, { on := 7, ground := Ground.data }], guard := none }) (by kernel_rfl) rfl (by rfl) (fun w0 hO hX K hK => ?_)
    (have hF := hO; (try simp only [Own, Item.Holds, apartI, CellsAt, Nat.reduceAdd, Nat.zero_add, List.mem_cons, List.not_mem_nil, or_false, forall_eq_or_imp, forall_eq, ne_eq, false_imp_iff, implies_true, and_true] at hF))
    refine wp_make15 _ _ 50 rfl 23 i1 (.slice none 0 0) 1 24 Tryd.underlying50 hi1 hy0 hy1 hy2 N rfl rfl (by omega) (by unfold maxLen; omega) hO ?_
    intro qc wc hO2
    rw [madeSt] at hO2
    apply hK _ _ _ (fun _ => True)
    · exact hO2
    · exact trivial
    · exact XStab.true
    · exact fun h => absurd h (by decide)
    clear hO hO2 hF
    clear hK K
    try simp only [Act.put, List.setIfInBounds_toArray, List.set_cons_zero, List.set_cons_succ]
    refine Sim.sP (i := 9) (d := some 41) (h := ?_)
    refine Sim.one' (i := 11) (oi := { dst := none, op := Op.store 52 (Operand.tmp 10) (Operand.tmp 41), type := 0, pos := "l15_completion.go:45", after := #[{ on := 10, ground := Ground.data }, { on := 9, ground := Ground.data }, { on := 0, ground := Ground.phase }, { on := 1, ground := Ground.phase }, { on := 2, ground := Ground.phase }, { on := 3, ground := Ground.phase }, { on := 4, ground := Ground.phase }, { on := 5, ground := Ground.phase }, { on := 6, ground := Ground.phase }, { on := 7, ground := Ground.phase }, { on := 8, ground := Ground.phase }, { on := 9, ground := Ground.phase }, { on := 10, ground := Ground.phase }], guard := none }) (by kernel_rfl) rfl (by rfl) (fun w0 hO hX K hK => ?_)
    have hF := hO; (try simp only [Own, Item.Holds, apartI, CellsAt, Nat.reduceAdd, Nat.zero_add, List.mem_cons, List.not_mem_nil, or_false, forall_eq_or_imp, forall_eq, ne_eq, false_imp_iff, implies_true, and_true] at hF); (skip)
    go_simp
    apply hK _ _ _ (fun _ => True)
    (repeat (first | (with_reducible exact hO) | (with_reducible apply Own.alloc) | (with_reducible apply Own.drew) | ((with_reducible apply Own.set_at); (focus (show _ ≤ _; omega)))))
    · first | exact trivial | exact hX | exact hX.below (below1 _) | exact RdIf.gone | exact hX.keep ((Below.refl _ _).setCell (by first | omega | (dsimp only; omega)) _)
    · exact (by first | exact XStab.true | exact XStab.rd | exact XStab.rdIf)
    · first | exact fun _ _ h => h.2 | exact fun _ _ h => h | exact fun h => absurd h (by decide)
    try simp only [upd, updI, List.map_cons, List.map_nil, eq_self, if_true, if_false, reduceIte, Nat.add_eq_left, Nat.left_eq_add, Nat.reduceEqDiff, List.set_cons_zero, List.set_cons_succ, hF]
    clear hK K hF hO
    try simp only [Act.put, List.setIfInBounds_toArray, List.set_cons_zero, List.set_cons_succ]
    refine Sim.done (by kernel_rfl) (fun w1 hO hX => ?_) _
    (try simp only [World.size_alloc1, World.size_drew, Nat.reduceAdd] at hO); (try simp only [upd, updI, List.map_cons, List.map_nil, eq_self, if_true, if_false, reduceIte, Nat.add_eq_left, Nat.left_eq_add, Nat.reduceEqDiff, List.set_cons_zero, List.set_cons_succ] at hO)
    have hF := hO; (try simp only [Own, Item.Holds, apartI, CellsAt, Nat.reduceAdd, Nat.zero_add, List.mem_cons, List.not_mem_nil, or_false, forall_eq_or_imp, forall_eq, ne_eq, false_imp_iff, implies_true, and_true] at hF)
    rotate_left 1
    (have hF := hO; (try simp only [Own, Item.Holds, apartI, CellsAt, Nat.reduceAdd, Nat.zero_add, List.mem_cons, List.not_mem_nil, or_false, forall_eq_or_imp, forall_eq, ne_eq, false_imp_iff, implies_true, and_true] at hF))
    go_simp
    obtain ⟨qa, hqa⟩ : ∃ q, w0.heap.size = q := ⟨_, rfl⟩
    have hO2 := hO.alloc (t := 52) (vs := [.int .i64 0, .slice none 0 0, .slice none 0 0, .slice none 0 0])
    rw [hqa] at hO2 ⊢
    apply hK _ _ _ (fun _ => True)
    · exact hO2
    · exact trivial
    · exact XStab.true
    · exact fun h => absurd h (by decide)
    clear hO hO2 hF hqa
    clear hK K
    try simp only [Act.put, List.setIfInBounds_toArray, List.set_cons_zero, List.set_cons_succ]
    refine Sim.sO (i := 7) (d := some 39) (v := ?_) (hy := ?_) (h := ?_)
    rotate_left
    · first | refine Or.inl ⟨by rfl, fun w hO => ?_⟩ | (refine Or.inr ⟨by rfl, ?_⟩; with_reducible rfl)
      first | done | (have hF := hO; (try simp only [Own, Item.Holds, apartI, CellsAt, Nat.reduceAdd, Nat.zero_add, List.mem_cons, List.not_mem_nil, or_false, forall_eq_or_imp, forall_eq, ne_eq, false_imp_iff, implies_true, and_true] at hF); (skip); refine Out.same ?_; go_simp; all_goals with_reducible rfl)
    refine Sim.one' (i := 8) (oi := { dst := some 40, op := Op.makeSlice 50 (Operand.tmp 39) (Operand.tmp 39), type := 50, pos := "l15_completion.go:45", after := #[{ on := 7, ground := Ground.data }, { on := 7, ground := Ground.data }], guard := none }) (by kernel_rfl) rfl (by rfl) (fun w0 hO hX K hK => ?_)
    (have hF := hO; (try simp only [Own, Item.Holds, apartI, CellsAt, Nat.reduceAdd, Nat.zero_add, List.mem_cons, List.not_mem_nil, or_false, forall_eq_or_imp, forall_eq, ne_eq, false_imp_iff, implies_true, and_true] at hF))
    refine wp_make15 _ _ 50 rfl 23 i1 (.slice none 0 0) 1 24 Tryd.underlying50 hi1 hy0 hy1 hy2 N rfl rfl (by omega) (by unfold maxLen; omega) hO ?_
    intro qc wc hO2
    rw [madeSt] at hO2
    apply hK _ _ _ (fun _ => True)
    · exact hO2
    · exact trivial
    · exact XStab.true
    · exact fun h => absurd h (by decide)
    clear hO hO2 hF
    clear hK K
    try simp only [Act.put, List.setIfInBounds_toArray, List.set_cons_zero, List.set_cons_succ]
    refine Sim.sP (i := 9) (d := some 41) (h := ?_)
    refine Sim.one' (i := 11) (oi := { dst := none, op := Op.store 52 (Operand.tmp 10) (Operand.tmp 41), type := 0, pos := "l15_completion.go:45", after := #[{ on := 10, ground := Ground.data }, { on := 9, ground := Ground.data }, { on := 0, ground := Ground.phase }, { on := 1, ground := Ground.phase }, { on := 2, ground := Ground.phase }, { on := 3, ground := Ground.phase }, { on := 4, ground := Ground.phase }, { on := 5, ground := Ground.phase }, { on := 6, ground := Ground.phase }, { on := 7, ground := Ground.phase }, { on := 8, ground := Ground.phase }, { on := 9, ground := Ground.phase }, { on := 10, ground := Ground.phase }], guard := none }) (by kernel_rfl) rfl (by rfl) (fun w0 hO hX K hK => ?_)
    have hF := hO; (try simp only [Own, Item.Holds, apartI, CellsAt, Nat.reduceAdd, Nat.zero_add, List.mem_cons, List.not_mem_nil, or_false, forall_eq_or_imp, forall_eq, ne_eq, false_imp_iff, implies_true, and_true] at hF); (skip)
    go_simp
    apply hK _ _ _ (fun _ => True)
    (repeat (first | (with_reducible exact hO) | (with_reducible apply Own.alloc) | (with_reducible apply Own.drew) | ((with_reducible apply Own.set_at); (focus (show _ ≤ _; omega)))))
    · first | exact trivial | exact hX | exact hX.below (below1 _) | exact RdIf.gone | exact hX.keep ((Below.refl _ _).setCell (by first | omega | (dsimp only; omega)) _)
    · exact (by first | exact XStab.true | exact XStab.rd | exact XStab.rdIf)
    · first | exact fun _ _ h => h.2 | exact fun _ _ h => h | exact fun h => absurd h (by decide)
    try simp only [upd, updI, List.map_cons, List.map_nil, eq_self, if_true, if_false, reduceIte, Nat.add_eq_left, Nat.left_eq_add, Nat.reduceEqDiff, List.set_cons_zero, List.set_cons_succ, hF]
    clear hK K hF hO
    try simp only [Act.put, List.setIfInBounds_toArray, List.set_cons_zero, List.set_cons_succ]
    refine Sim.done (by kernel_rfl) (fun w1 hO hX => ?_) _
    (try simp only [World.size_alloc1, World.size_drew, Nat.reduceAdd] at hO); (try simp only [upd, updI, List.map_cons, List.map_nil, eq_self, if_true, if_false, reduceIte, Nat.add_eq_left, Nat.left_eq_add, Nat.reduceEqDiff, List.set_cons_zero, List.set_cons_succ] at hO)
    have hF := hO; (try simp only [Own, Item.Holds, apartI, CellsAt, Nat.reduceAdd, Nat.zero_add, List.mem_cons, List.not_mem_nil, or_false, forall_eq_or_imp, forall_eq, ne_eq, false_imp_iff, implies_true, and_true] at hF)
    rotate_left 1
    have hF := hO; (try simp only [Own, Item.Holds, apartI, CellsAt, Nat.reduceAdd, Nat.zero_add, List.mem_cons, List.not_mem_nil, or_false, forall_eq_or_imp, forall_eq, ne_eq, false_imp_iff, implies_true, and_true] at hF)
    go_simp
    apply hK _ _ _ (fun _ => True)
    (repeat (first | (with_reducible exact hO) | (with_reducible apply Own.alloc) | (with_reducible apply Own.drew) | ((with_reducible apply Own.set_at); (focus (show _ ≤ _; omega)))))
    · first | exact trivial | exact hX | exact hX.below (below1 _) | exact RdIf.gone | exact hX.keep ((Below.refl _ _).setCell (by first | omega | (dsimp only; omega)) _)
    · exact (by first | exact XStab.true | exact XStab.rd | exact XStab.rdIf)
    · first | exact fun _ _ h => h.2 | exact fun _ _ h => h | exact fun h => absurd h (by decide)
    try simp only [upd, updI, List.map_cons, List.map_nil, eq_self, if_true, if_false, reduceIte, Nat.add_eq_left, Nat.left_eq_add, Nat.reduceEqDiff, List.set_cons_zero, List.set_cons_succ, hF]
    clear hK K hF hO
    try simp only [Act.put, List.setIfInBounds_toArray, List.set_cons_zero, List.set_cons_succ]
    refine Sim.many (rs := [4, 8, 10]) (by kernel_rfl) (by decide) ?_
    refine AllS.cons (oi := { dst := some 36, op := Op.makeSlice 23 (Operand.tmp 35) (Operand.tmp 35), type := 23, pos := "l15_completion.go:45", after := #[{ on := 3, ground := Ground.data }, { on := 3, ground := Ground.data }], guard := none }) rfl (by rfl) (fun w0 hO hX K hK => ?_) ?_
    rotate_left
    refine AllS.cons (oi := { dst := some 40, op := Op.makeSlice 50 (Operand.tmp 39) (Operand.tmp 39), type := 50, pos := "l15_completion.go:45", after := #[{ on := 7, ground := Ground.data }, { on := 7, ground := Ground.data }], guard := none }) rfl (by rfl) (fun w0 hO hX K hK => ?_) ?_
    rotate_left
    refine AllS.cons (oi := { dst := some 10, op := Op.alloc 52, type := 0, pos := "l15_completion.go:45", after := #[], guard := none }) rfl (by rfl) (fun w0 hO hX K hK => ?_) ?_
    rotate_left
    exact AllS.nil
    rotate_right 3
    (have hF := hO; (try simp only [Own, Item.Holds, apartI, CellsAt, Nat.reduceAdd, Nat.zero_add, List.mem_cons, List.not_mem_nil, or_false, forall_eq_or_imp, forall_eq, ne_eq, false_imp_iff, implies_true, and_true] at hF))
    refine wp_make15 _ _ 23 rfl 37 i0 (.agg #[.int .i64 0, .int .i64 0, .int .i64 0]) 3 24 Tryd.underlying23 hi0 hz0 hz1 hz2 N rfl rfl (by omega) (by unfold maxLen; omega) hO ?_
    intro ql wl hO2
    rw [madeP] at hO2
    apply hK _ _ _ (fun _ => True)
    · exact hO2
    · exact trivial
    · exact XStab.true
    · exact fun h => absurd h (by decide)
    clear hO hO2 hF
    clear hK K
    try simp only [Act.put, List.setIfInBounds_toArray, List.set_cons_zero, List.set_cons_succ]
    refine Sim.sP (i := 5) (d := some 37) (h := ?_)
    refine Sim.many (rs := [8, 10]) (by kernel_rfl) (by decide) ?_
    refine AllS.cons (oi := { dst := some 40, op := Op.makeSlice 50 (Operand.tmp 39) (Operand.tmp 39), type := 50, pos := "l15_completion.go:45", after := #[{ on := 7, ground := Ground.data }, { on := 7, ground := Ground.data }], guard := none }) rfl (by rfl) (fun w0 hO hX K hK => ?_) ?_
    rotate_left
    refine AllS.cons (oi := { dst := some 10, op := Op.alloc 52, type := 0, pos := "l15_completion.go:45", after := #[], guard := none }) rfl (by rfl) (fun w0 hO hX K hK => ?_) ?_
    rotate_left
    exact AllS.nil
    rotate_right 2
    (have hF := hO; (try simp only [Own, Item.Holds, apartI, CellsAt, Nat.reduceAdd, Nat.zero_add, List.mem_cons, List.not_mem_nil, or_false, forall_eq_or_imp, forall_eq, ne_eq, false_imp_iff, implies_true, and_true] at hF))
    refine wp_make15 _ _ 50 rfl 23 i1 (.slice none 0 0) 1 24 Tryd.underlying50 hi1 hy0 hy1 hy2 N rfl rfl (by omega) (by unfold maxLen; omega) hO ?_
    intro qc wc hO2
    rw [madeSt] at hO2
    apply hK _ _ _ (fun _ => True)
    · exact hO2
    · exact trivial
    · exact XStab.true
    · exact fun h => absurd h (by decide)
    clear hO hO2 hF
    clear hK K
    try simp only [Act.put, List.setIfInBounds_toArray, List.set_cons_zero, List.set_cons_succ]
    refine Sim.sP (i := 9) (d := some 41) (h := ?_)
    refine Sim.one' (i := 10) (oi := { dst := some 10, op := Op.alloc 52, type := 0, pos := "l15_completion.go:45", after := #[], guard := none }) (by kernel_rfl) rfl (by rfl) (fun w0 hO hX K hK => ?_)
    (have hF := hO; (try simp only [Own, Item.Holds, apartI, CellsAt, Nat.reduceAdd, Nat.zero_add, List.mem_cons, List.not_mem_nil, or_false, forall_eq_or_imp, forall_eq, ne_eq, false_imp_iff, implies_true, and_true] at hF))
    go_simp
    obtain ⟨qa, hqa⟩ : ∃ q, w0.heap.size = q := ⟨_, rfl⟩
    have hO2 := hO.alloc (t := 52) (vs := [.int .i64 0, .slice none 0 0, .slice none 0 0, .slice none 0 0])
    rw [hqa] at hO2 ⊢
    apply hK _ _ _ (fun _ => True)
    · exact hO2
    · exact trivial
    · exact XStab.true
    · exact fun h => absurd h (by decide)
    clear hO hO2 hF hqa
    clear hK K
    try simp only [Act.put, List.setIfInBounds_toArray, List.set_cons_zero, List.set_cons_succ]
    refine Sim.one' (i := 11) (oi := { dst := none, op := Op.store 52 (Operand.tmp 10) (Operand.tmp 41), type := 0, pos := "l15_completion.go:45", after := #[{ on := 10, ground := Ground.data }, { on := 9, ground := Ground.data }, { on := 0, ground := Ground.phase }, { on := 1, ground := Ground.phase }, { on := 2, ground := Ground.phase }, { on := 3, ground := Ground.phase }, { on := 4, ground := Ground.phase }, { on := 5, ground := Ground.phase }, { on := 6, ground := Ground.phase }, { on := 7, ground := Ground.phase }, { on := 8, ground := Ground.phase }, { on := 9, ground := Ground.phase }, { on := 10, ground := Ground.phase }], guard := none }) (by kernel_rfl) rfl (by rfl) (fun w0 hO hX K hK => ?_)
    have hF := hO; (try simp only [Own, Item.Holds, apartI, CellsAt, Nat.reduceAdd, Nat.zero_add, List.mem_cons, List.not_mem_nil, or_false, forall_eq_or_imp, forall_eq, ne_eq, false_imp_iff, implies_true, and_true] at hF); (skip)
    go_simp
    apply hK _ _ _ (fun _ => True)
    (repeat (first | (with_reducible exact hO) | (with_reducible apply Own.alloc) | (with_reducible apply Own.drew) | ((with_reducible apply Own.set_at); (focus (show _ ≤ _; omega)))))
    · first | exact trivial | exact hX | exact hX.below (below1 _) | exact RdIf.gone | exact hX.keep ((Below.refl _ _).setCell (by first | omega | (dsimp only; omega)) _)
    · exact (by first | exact XStab.true | exact XStab.rd | exact XStab.rdIf)
    · first | exact fun _ _ h => h.2 | exact fun _ _ h => h | exact fun h => absurd h (by decide)
    try simp only [upd, updI, List.map_cons, List.map_nil, eq_self, if_true, if_false, reduceIte, Nat.add_eq_left, Nat.left_eq_add, Nat.reduceEqDiff, List.set_cons_zero, List.set_cons_succ, hF]
    clear hK K hF hO
    try simp only [Act.put, List.setIfInBounds_toArray, List.set_cons_zero, List.set_cons_succ]
    refine Sim.done (by kernel_rfl) (fun w1 hO hX => ?_) _
    (try simp only [World.size_alloc1, World.size_drew, Nat.reduceAdd] at hO); (try simp only [upd, updI, List.map_cons, List.map_nil, eq_self, if_true, if_false, reduceIte, Nat.add_eq_left, Nat.left_eq_add, Nat.reduceEqDiff, List.set_cons_zero, List.set_cons_succ] at hO)
    have hF := hO; (try simp only [Own, Item.Holds, apartI, CellsAt, Nat.reduceAdd, Nat.zero_add, List.mem_cons, List.not_mem_nil, or_false, forall_eq_or_imp, forall_eq, ne_eq, false_imp_iff, implies_true, and_true] at hF)
    rotate_left 1
    (have hF := hO; (try simp only [Own, Item.Holds, apartI, CellsAt, Nat.reduceAdd, Nat.zero_add, List.mem_cons, List.not_mem_nil, or_false, forall_eq_or_imp, forall_eq, ne_eq, false_imp_iff, implies_true, and_true] at hF))
    go_simp
    obtain ⟨qa, hqa⟩ : ∃ q, w0.heap.size = q := ⟨_, rfl⟩
    have hO2 := hO.alloc (t := 52) (vs := [.int .i64 0, .slice none 0 0, .slice none 0 0, .slice none 0 0])
    rw [hqa] at hO2 ⊢
    apply hK _ _ _ (fun _ => True)
    · exact hO2
    · exact trivial
    · exact XStab.true
    · exact fun h => absurd h (by decide)
    clear hO hO2 hF hqa
    clear hK K
    try simp only [Act.put, List.setIfInBounds_toArray, List.set_cons_zero, List.set_cons_succ]
    refine Sim.one' (i := 8) (oi := { dst := some 40, op := Op.makeSlice 50 (Operand.tmp 39) (Operand.tmp 39), type := 50, pos := "l15_completion.go:45", after := #[{ on := 7, ground := Ground.data }, { on := 7, ground := Ground.data }], guard := none }) (by kernel_rfl) rfl (by rfl) (fun w0 hO hX K hK => ?_)
    (have hF := hO; (try simp only [Own, Item.Holds, apartI, CellsAt, Nat.reduceAdd, Nat.zero_add, List.mem_cons, List.not_mem_nil, or_false, forall_eq_or_imp, forall_eq, ne_eq, false_imp_iff, implies_true, and_true] at hF))
    refine wp_make15 _ _ 50 rfl 23 i1 (.slice none 0 0) 1 24 Tryd.underlying50 hi1 hy0 hy1 hy2 N rfl rfl (by omega) (by unfold maxLen; omega) hO ?_
    intro qc wc hO2
    rw [madeSt] at hO2
    apply hK _ _ _ (fun _ => True)
    · exact hO2
    · exact trivial
    · exact XStab.true
    · exact fun h => absurd h (by decide)
    clear hO hO2 hF
    clear hK K
    try simp only [Act.put, List.setIfInBounds_toArray, List.set_cons_zero, List.set_cons_succ]
    refine Sim.sP (i := 9) (d := some 41) (h := ?_)
    refine Sim.one' (i := 11) (oi := { dst := none, op := Op.store 52 (Operand.tmp 10) (Operand.tmp 41), type := 0, pos := "l15_completion.go:45", after := #[{ on := 10, ground := Ground.data }, { on := 9, ground := Ground.data }, { on := 0, ground := Ground.phase }, { on := 1, ground := Ground.phase }, { on := 2, ground := Ground.phase }, { on := 3, ground := Ground.phase }, { on := 4, ground := Ground.phase }, { on := 5, ground := Ground.phase }, { on := 6, ground := Ground.phase }, { on := 7, ground := Ground.phase }, { on := 8, ground := Ground.phase }, { on := 9, ground := Ground.phase }, { on := 10, ground := Ground.phase }], guard := none }) (by kernel_rfl) rfl (by rfl) (fun w0 hO hX K hK => ?_)
    have hF := hO; (try simp only [Own, Item.Holds, apartI, CellsAt, Nat.reduceAdd, Nat.zero_add, List.mem_cons, List.not_mem_nil, or_false, forall_eq_or_imp, forall_eq, ne_eq, false_imp_iff, implies_true, and_true] at hF); (skip)
    go_simp
    apply hK _ _ _ (fun _ => True)
    (repeat (first | (with_reducible exact hO) | (with_reducible apply Own.alloc) | (with_reducible apply Own.drew) | ((with_reducible apply Own.set_at); (focus (show _ ≤ _; omega)))))
    · first | exact trivial | exact hX | exact hX.below (below1 _) | exact RdIf.gone | exact hX.keep ((Below.refl _ _).setCell (by first | omega | (dsimp only; omega)) _)
    · exact (by first | exact XStab.true | exact XStab.rd | exact XStab.rdIf)
    · first | exact fun _ _ h => h.2 | exact fun _ _ h => h | exact fun h => absurd h (by decide)
    try simp only [upd, updI, List.map_cons, List.map_nil, eq_self, if_true, if_false, reduceIte, Nat.add_eq_left, Nat.left_eq_add, Nat.reduceEqDiff, List.set_cons_zero, List.set_cons_succ, hF]
    clear hK K hF hO
    try simp only [Act.put, List.setIfInBounds_toArray, List.set_cons_zero, List.set_cons_succ]
    refine Sim.done (by kernel_rfl) (fun w1 hO hX => ?_) _
    (try simp only [World.size_alloc1, World.size_drew, Nat.reduceAdd] at hO); (try simp only [upd, updI, List.map_cons, List.map_nil, eq_self, if_true, if_false, reduceIte, Nat.add_eq_left, Nat.left_eq_add, Nat.reduceEqDiff, List.set_cons_zero, List.set_cons_succ] at hO)
    have hF := hO; (try simp only [Own, Item.Holds, apartI, CellsAt, Nat.reduceAdd, Nat.zero_add, List.mem_cons, List.not_mem_nil, or_false, forall_eq_or_imp, forall_eq, ne_eq, false_imp_iff, implies_true, and_true] at hF)
    rotate_left 1
    (have hF := hO; (try simp only [Own, Item.Holds, apartI, CellsAt, Nat.reduceAdd, Nat.zero_add, List.mem_cons, List.not_mem_nil, or_false, forall_eq_or_imp, forall_eq, ne_eq, false_imp_iff, implies_true, and_true] at hF))
    refine wp_make15 _ _ 50 rfl 23 i1 (.slice none 0 0) 1 24 Tryd.underlying50 hi1 hy0 hy1 hy2 N rfl rfl (by omega) (by unfold maxLen; omega) hO ?_
    intro qc wc hO2
    rw [madeSt] at hO2
    apply hK _ _ _ (fun _ => True)
    · exact hO2
    · exact trivial
    · exact XStab.true
    · exact fun h => absurd h (by decide)
    clear hO hO2 hF
    clear hK K
    try simp only [Act.put, List.setIfInBounds_toArray, List.set_cons_zero, List.set_cons_succ]
    refine Sim.many (rs := [4, 10]) (by kernel_rfl) (by decide) ?_
    refine AllS.cons (oi := { dst := some 36, op := Op.makeSlice 23 (Operand.tmp 35) (Operand.tmp 35), type := 23, pos := "l15_completion.go:45", after := #[{ on := 3, ground := Ground.data }, { on := 3, ground := Ground.data }], guard := none }) rfl (by rfl) (fun w0 hO hX K hK => ?_) ?_
    rotate_left
    refine AllS.cons (oi := { dst := some 10, op := Op.alloc 52, type := 0, pos := "l15_completion.go:45", after := #[], guard := none }) rfl (by rfl) (fun w0 hO hX K hK => ?_) ?_
    rotate_left
    exact AllS.nil
    rotate_right 2
    (have hF := hO; (try simp only [Own, Item.Holds, apartI, CellsAt, Nat.reduceAdd, Nat.zero_add, List.mem_cons, List.not_mem_nil, or_false, forall_eq_or_imp, forall_eq, ne_eq, false_imp_iff, implies_true, and_true] at hF))
    refine wp_make15 _ _ 23 rfl 37 i0 (.agg #[.int .i64 0, .int .i64 0, .int .i64 0]) 3 24 Tryd.underlying23 hi0 hz0 hz1 hz2 N rfl rfl (by omega) (by unfold maxLen; omega) hO ?_
    intro ql wl hO2
    rw [madeP] at hO2
    apply hK _ _ _ (fun _ => True)
    · exact hO2
    · exact trivial
    · exact XStab.true
    · exact fun h => absurd h (by decide)
    clear hO hO2 hF
    clear hK K
    try simp only [Act.put, List.setIfInBounds_toArray, List.set_cons_zero, List.set_cons_succ]
    refine Sim.sP (i := 5) (d := some 37) (h := ?_)
    refine Sim.sP (i := 9) (d := some 41) (h := ?_)
    refine Sim.one' (i := 10) (oi := { dst := some 10, op := Op.alloc 52, type := 0, pos := "l15_completion.go:45", after := #[], guard := none }) (by kernel_rfl) rfl (by rfl) (fun w0 hO hX K hK => ?_)
    (have hF := hO; (try simp only [Own, Item.Holds, apartI, CellsAt, Nat.reduceAdd, Nat.zero_add, List.mem_cons, List.not_mem_nil, or_false, forall_eq_or_imp, forall_eq, ne_eq, false_imp_iff, implies_true, and_true] at hF))
    go_simp
    obtain ⟨qa, hqa⟩ : ∃ q, w0.heap.size = q := ⟨_, rfl⟩
    have hO2 := hO.alloc (t := 52) (vs := [.int .i64 0, .slice none 0 0, .slice none 0 0, .slice none 0 0])
    rw [hqa] at hO2 ⊢
    apply hK _ _ _ (fun _ => True)
    · exact hO2
    · exact trivial
    · exact XStab.true
    · exact fun h => absurd h (by decide)
    clear hO hO2 hF hqa
    clear hK K
    try simp only [Act.put, List.setIfInBounds_toArray, List.set_cons_zero, List.set_cons_succ]
    refine Sim.one' (i := 11) (oi := { dst := none, op := Op.store 52 (Operand.tmp 10) (Operand.tmp 41), type := 0, pos := "l15_completion.go:45", after := #[{ on := 10, ground := Ground.data }, { on := 9, ground := Ground.data }, { on := 0, ground := Ground.phase }, { on := 1, ground := Ground.phase }, { on := 2, ground := Ground.phase }, { on := 3, ground := Ground.phase }, { on := 4, ground := Ground.phase }, { on := 5, ground := Ground.phase }, { on := 6, ground := Ground.phase }, { on := 7, ground := Ground.phase }, { on := 8, ground := Ground.phase }, { on := 9, ground := Ground.phase }, { on := 10, ground := Ground.phase }], guard := none }) (by kernel_rfl) rfl (by rfl) (fun w0 hO hX K hK => ?_)
    have hF := hO; (try simp only [Own, Item.Holds, apartI, CellsAt, Nat.reduceAdd, Nat.zero_add, List.mem_cons, List.not_mem_nil, or_false, forall_eq_or_imp, forall_eq, ne_eq, false_imp_iff, implies_true, and_true] at hF); (skip)
    go_simp
    apply hK _ _ _ (fun _ => True)
    (repeat (first | (with_reducible exact hO) | (with_reducible apply Own.alloc) | (with_reducible apply Own.drew) | ((with_reducible apply Own.set_at); (focus (show _ ≤ _; omega)))))
    · first | exact trivial | exact hX | exact hX.below (below1 _) | exact RdIf.gone | exact hX.keep ((Below.refl _ _).setCell (by first | omega | (dsimp only; omega)) _)
    · exact (by first | exact XStab.true | exact XStab.rd | exact XStab.rdIf)
    · first | exact fun _ _ h => h.2 | exact fun _ _ h => h | exact fun h => absurd h (by decide)
    try simp only [upd, updI, List.map_cons, List.map_nil, eq_self, if_true, if_false, reduceIte, Nat.add_eq_left, Nat.left_eq_add, Nat.reduceEqDiff, List.set_cons_zero, List.set_cons_succ, hF]
    clear hK K hF hO
    try simp only [Act.put, List.setIfInBounds_toArray, List.set_cons_zero, List.set_cons_succ]
    refine Sim.done (by kernel_rfl) (fun w1 hO hX => ?_) _
    (try simp only [World.size_alloc1, World.size_drew, Nat.reduceAdd] at hO); (try simp only [upd, updI, List.map_cons, List.map_nil, eq_self, if_true, if_false, reduceIte, Nat.add_eq_left, Nat.left_eq_add, Nat.reduceEqDiff, List.set_cons_zero, List.set_cons_succ] at hO)
    have hF := hO; (try simp only [Own, Item.Holds, apartI, CellsAt, Nat.reduceAdd, Nat.zero_add, List.mem_cons, List.not_mem_nil, or_false, forall_eq_or_imp, forall_eq, ne_eq, false_imp_iff, implies_true, and_true] at hF)
    rotate_left 1
    (have hF := hO; (try simp only [Own, Item.Holds, apartI, CellsAt, Nat.reduceAdd, Nat.zero_add, List.mem_cons, List.not_mem_nil, or_false, forall_eq_or_imp, forall_eq, ne_eq, false_imp_iff, implies_true, and_true] at hF))
    go_simp
    obtain ⟨qa, hqa⟩ : ∃ q, w0.heap.size = q := ⟨_, rfl⟩
    have hO2 := hO.alloc (t := 52) (vs := [.int .i64 0, .slice none 0 0, .slice none 0 0, .slice none 0 0])
    rw [hqa] at hO2 ⊢
    apply hK _ _ _ (fun _ => True)
    · exact hO2
    · exact trivial
    · exact XStab.true
    · exact fun h => absurd h (by decide)
    clear hO hO2 hF hqa
    clear hK K
    try simp only [Act.put, List.setIfInBounds_toArray, List.set_cons_zero, List.set_cons_succ]
    refine Sim.one' (i := 4) (oi := { dst := some 36, op := Op.makeSlice 23 (Operand.tmp 35) (Operand.tmp 35), type := 23, pos := "l15_completion.go:45", after := #[{ on := 3, ground := Ground.data }, { on := 3, ground := Ground.data }], guard := none }) (by kernel_rfl) rfl (by rfl) (fun w0 hO hX K hK => ?_)
    (have hF := hO; (try simp only [Own, Item.Holds, apartI, CellsAt, Nat.reduceAdd, Nat.zero_add, List.mem_cons, List.not_mem_nil, or_false, forall_eq_or_imp, forall_eq, ne_eq, false_imp_iff, implies_true, and_true] at hF))
    refine wp_make15 _ _ 23 rfl 37 i0 (.agg #[.int .i64 0, .int .i64 0, .int .i64 0]) 3 24 Tryd.underlying23 hi0 hz0 hz1 hz2 N rfl rfl (by omega) (by unfold maxLen; omega) hO ?_
    intro ql wl hO2
    rw [madeP] at hO2
    apply hK _ _ _ (fun _ => True)
    · exact hO2
    · exact trivial
    · exact XStab.true
    · exact fun h => absurd h (by decide)
    clear hO hO2 hF
    clear hK K
    try simp only [Act.put, List.setIfInBounds_toArray, List.set_cons_zero, List.set_cons_succ]
    refine Sim.sP (i := 5) (d := some 37) (h := ?_)
    refine Sim.sP (i := 9) (d := some 41) (h := ?_)
    refine Sim.one' (i := 11) (oi := { dst := none, op := Op.store 52 (Operand.tmp 10) (Operand.tmp 41), type := 0, pos := "l15_completion.go:45", after := #[{ on := 10, ground := Ground.data }, { on := 9, ground := Ground.data }, { on := 0, ground := Ground.phase }, { on := 1, ground := Ground.phase }, { on := 2, ground := Ground.phase }, { on := 3, ground := Ground.phase }, { on := 4, ground := Ground.phase }, { on := 5, ground := Ground.phase }, { on := 6, ground := Ground.phase }, { on := 7, ground := Ground.phase }, { on := 8, ground := Ground.phase }, { on := 9, ground := Ground.phase }, { on := 10, ground := Ground.phase }], guard := none }) (by kernel_rfl) rfl (by rfl) (fun w0 hO hX K hK => ?_)
    have hF := hO; (try simp only [Own, Item.Holds, apartI, CellsAt, Nat.reduceAdd, Nat.zero_add, List.mem_cons, List.not_mem_nil, or_false, forall_eq_or_imp, forall_eq, ne_eq, false_imp_iff, implies_true, and_true] at hF); (skip)
    go_simp
    apply hK _ _ _ (fun _ => True)
    (repeat (first | (with_reducible exact hO) | (with_reducible apply Own.alloc) | (with_reducible apply Own.drew) | ((with_reducible apply Own.set_at); (focus (show _ ≤ _; omega)))))
    · first | exact trivial | exact hX | exact hX.below (below1 _) | exact RdIf.gone | exact hX.keep ((Below.refl _ _).setCell (by first | omega | (dsimp only; omega)) _)
    · exact (by first | exact XStab.true | exact XStab.rd | exact XStab.rdIf)
    · first | exact fun _ _ h => h.2 | exact fun _ _ h => h | exact fun h => absurd h (by decide)
    try simp only [upd, updI, List.map_cons, List.map_nil, eq_self, if_true, if_false, reduceIte, Nat.add_eq_left, Nat.left_eq_add, Nat.reduceEqDiff, List.set_cons_zero, List.set_cons_succ, hF]
    clear hK K hF hO
    try simp only [Act.put, List.setIfInBounds_toArray, List.set_cons_zero, List.set_cons_succ]
    refine Sim.done (by kernel_rfl) (fun w1 hO hX => ?_) _
    (try simp only [World.size_alloc1, World.size_drew, Nat.reduceAdd] at hO); (try simp only [upd, updI, List.map_cons, List.map_nil, eq_self, if_true, if_false, reduceIte, Nat.add_eq_left, Nat.left_eq_add, Nat.reduceEqDiff, List.set_cons_zero, List.set_cons_succ] at hO)
    have hF := hO; (try simp only [Own, Item.Holds, apartI, CellsAt, Nat.reduceAdd, Nat.zero_add, List.mem_cons, List.not_mem_nil, or_false, forall_eq_or_imp, forall_eq, ne_eq, false_imp_iff, implies_true, and_true] at hF)
    rotate_left 1
    (have hF := hO; (try simp only [Own, Item.Holds, apartI, CellsAt, Nat.reduceAdd, Nat.zero_add, List.mem_cons, List.not_mem_nil, or_false, forall_eq_or_imp, forall_eq, ne_eq, false_imp_iff, implies_true, and_true] at hF))
    go_simp
    obtain ⟨qa, hqa⟩ : ∃ q, w0.heap.size = q := ⟨_, rfl⟩
    have hO2 := hO.alloc (t := 52) (vs := [.int .i64 0, .slice none 0 0, .slice none 0 0, .slice none 0 0])
    rw [hqa] at hO2 ⊢
    apply hK _ _ _ (fun _ => True)
    · exact hO2
    · exact trivial
    · exact XStab.true
    · exact fun h => absurd h (by decide)
    clear hO hO2 hF hqa
    clear hK K
    try simp only [Act.put, List.setIfInBounds_toArray, List.set_cons_zero, List.set_cons_succ]
    refine Sim.many (rs := [4, 8]) (by kernel_rfl) (by decide) ?_
    refine AllS.cons (oi := { dst := some 36, op := Op.makeSlice 23 (Operand.tmp 35) (Operand.tmp 35), type := 23, pos := "l15_completion.go:45", after := #[{ on := 3, ground := Ground.data }, { on := 3, ground := Ground.data }], guard := none }) rfl (by rfl) (fun w0 hO hX K hK => ?_) ?_
    rotate_left
    refine AllS.cons (oi := { dst := some 40, op := Op.makeSlice 50 (Operand.tmp 39) (Operand.tmp 39), type := 50, pos := "l15_completion.go:45", after := #[{ on := 7, ground := Ground.data }, { on := 7, ground := Ground.data }], guard := none }) rfl (by rfl) (fun w0 hO hX K hK => ?_) ?_
    rotate_left
    exact AllS.nil
    rotate_right 2
    (have hF := hO; (try simp only [Own, Item.Holds, apartI, CellsAt, Nat.reduceAdd, Nat.zero_add, List.mem_cons, List.not_mem_nil, or_false, forall_eq_or_imp, forall_eq, ne_eq, false_imp_iff, implies_true, and_true] at hF))
    refine wp_make15 _ _ 23 rfl 37 i0 (.agg #[.int .i64 0, .int .i64 0, .int .i64 0]) 3 24 Tryd.underlying23 hi0 hz0 hz1 hz2 N rfl rfl (by omega) (by unfold maxLen; omega) hO ?_
    intro ql wl hO2
    rw [madeP] at hO2
    apply hK _ _ _ (fun _ => True)
    · exact hO2
    · exact trivial
    · exact XStab.true
    · exact fun h => absurd h (by decide)
    clear hO hO2 hF
    clear hK K
    try simp only [Act.put, List.setIfInBounds_toArray, List.set_cons_zero, List.set_cons_succ]
    refine Sim.sP (i := 5) (d := some 37) (h := ?_)
    refine Sim.one' (i := 8) (oi := { dst := some 40, op := Op.makeSlice 50 (Operand.tmp 39) (Operand.tmp 39), type := 50, pos := "l15_completion.go:45", after := #[{ on := 7, ground := Ground.data }, { on := 7, ground := Ground.data }], guard := none }) (by kernel_rfl) rfl (by rfl) (fun w0 hO hX K hK => ?_)
    (have hF := hO; (try simp only [Own, Item.Holds, apartI, CellsAt, Nat.reduceAdd, Nat.zero_add, List.mem_cons, List.not_mem_nil, or_false, forall_eq_or_imp, forall_eq, ne_eq, false_imp_iff, implies_true, and_true] at hF))
    refine wp_make15 _ _ 50 rfl 23 i1 (.slice none 0 0) 1 24 Tryd.underlying50 hi1 hy0 hy1 hy2 N rfl rfl (by omega) (by unfold maxLen; omega) hO ?_
    intro qc wc hO2
    rw [madeSt] at hO2
    apply hK _ _ _ (fun _ => True)
    · exact hO2
    · exact trivial
    · exact XStab.true
    · exact fun h => absurd h (by decide)
    clear hO hO2 hF
    clear hK K
    try simp only [Act.put, List.setIfInBounds_toArray, List.set_cons_zero, List.set_cons_succ]
    refine Sim.sP (i := 9) (d := some 41) (h := ?_)
    refine Sim.one' (i := 11) (oi := { dst := none, op := Op.store 52 (Operand.tmp 10) (Operand.tmp 41), type := 0, pos := "l15_completion.go:45", after := #[{ on := 10, ground := Ground.data }, { on := 9, ground := Ground.data }, { on := 0, ground := Ground.phase }, { on := 1, ground := Ground.phase }, { on := 2, ground := Ground.phase }, { on := 3, ground := Ground.phase }, { on := 4, ground := Ground.phase }, { on := 5, ground := Ground.phase }, { on := 6, ground := Ground.phase }, { on := 7, ground := Ground.phase }, { on := 8, ground := Ground.phase }, { on := 9, ground := Ground.phase }, { on := 10, ground := Ground.phase }], guard := none }) (by kernel_rfl) rfl (by rfl) (fun w0 hO hX K hK => ?_)
    have hF := hO; (try simp only [Own, Item.Holds, apartI, CellsAt, Nat.reduceAdd, Nat.zero_add, List.mem_cons, List.not_mem_nil, or_false, forall_eq_or_imp, forall_eq, ne_eq, false_imp_iff, implies_true, and_true] at hF); (skip)
    go_simp
    apply hK _ _ _ (fun _ => True)
    (repeat (first | (with_reducible exact hO) | (with_reducible apply Own.alloc) | (with_reducible apply Own.drew) | ((with_reducible apply Own.set_at); (focus (show _ ≤ _; omega)))))
    · first | exact trivial | exact hX | exact hX.below (below1 _) | exact RdIf.gone | exact hX.keep ((Below.refl _ _).setCell (by first | omega | (dsimp only; omega)) _)
    · exact (by first | exact XStab.true | exact XStab.rd | exact XStab.rdIf)
    · first | exact fun _ _ h => h.2 | exact fun _ _ h => h | exact fun h => absurd h (by decide)
    try simp only [upd, updI, List.map_cons, List.map_nil, eq_self, if_true, if_false, reduceIte, Nat.add_eq_left, Nat.left_eq_add, Nat.reduceEqDiff, List.set_cons_zero, List.set_cons_succ, hF]
    clear hK K hF hO
    try simp only [Act.put, List.setIfInBounds_toArray, List.set_cons_zero, List.set_cons_succ]
    refine Sim.done (by kernel_rfl) (fun w1 hO hX => ?_) _
    (try simp only [World.size_alloc1, World.size_drew, Nat.reduceAdd] at hO); (try simp only [upd, updI, List.map_cons, List.map_nil, eq_self, if_true, if_false, reduceIte, Nat.add_eq_left, Nat.left_eq_add, Nat.reduceEqDiff, List.set_cons_zero, List.set_cons_succ] at hO)
    have hF := hO; (try simp only [Own, Item.Holds, apartI, CellsAt, Nat.reduceAdd, Nat.zero_add, List.mem_cons, List.not_mem_nil, or_false, forall_eq_or_imp, forall_eq, ne_eq, false_imp_iff, implies_true, and_true] at hF)
    rotate_left 1
    (have hF := hO; (try simp only [Own, Item.Holds, apartI, CellsAt, Nat.reduceAdd, Nat.zero_add, List.mem_cons, List.not_mem_nil, or_false, forall_eq_or_imp, forall_eq, ne_eq, false_imp_iff, implies_true, and_true] at hF))
    refine wp_make15 _ _ 50 rfl 23 i1 (.slice none 0 0) 1 24 Tryd.underlying50 hi1 hy0 hy1 hy2 N rfl rfl (by omega) (by unfold maxLen; omega) hO ?_
    intro qc wc hO2
    rw [madeSt] at hO2
    apply hK _ _ _ (fun _ => True)
    · exact hO2
    · exact trivial
    · exact XStab.true
    · exact fun h => absurd h (by decide)
    clear hO hO2 hF
    clear hK K
    try simp only [Act.put, List.setIfInBounds_toArray, List.set_cons_zero, List.set_cons_succ]
    refine Sim.one' (i := 4) (oi := { dst := some 36, op := Op.makeSlice 23 (Operand.tmp 35) (Operand.tmp 35), type := 23, pos := "l15_completion.go:45", after := #[{ on := 3, ground := Ground.data }, { on := 3, ground := Ground.data }], guard := none }) (by kernel_rfl) rfl (by rfl) (fun w0 hO hX K hK => ?_)
    (have hF := hO; (try simp only [Own, Item.Holds, apartI, CellsAt, Nat.reduceAdd, Nat.zero_add, List.mem_cons, List.not_mem_nil, or_false, forall_eq_or_imp, forall_eq, ne_eq, false_imp_iff, implies_true, and_true] at hF))
    refine wp_make15 _ _ 23 rfl 37 i0 (.agg #[.int .i64 0, .int .i64 0, .int .i64 0]) 3 24 Tryd.underlying23 hi0 hz0 hz1 hz2 N rfl rfl (by omega) (by unfold maxLen; omega) hO ?_
    intro ql wl hO2
    rw [madeP] at hO2
    apply hK _ _ _ (fun _ => True)
    · exact hO2
    · exact trivial
    · exact XStab.true
    · exact fun h => absurd h (by decide)
    clear hO hO2 hF
    clear hK K
    try simp only [Act.put, List.setIfInBounds_toArray, List.set_cons_zero, List.set_cons_succ]
    refine Sim.sP (i := 5) (d := some 37) (h := ?_)
    refine Sim.sP (i := 9) (d := some 41) (h := ?_)
    refine Sim.one' (i := 11) (oi := { dst := none, op := Op.store 52 (Operand.tmp 10) (Operand.tmp 41), type := 0, pos := "l15_completion.go:45", after := #[{ on := 10, ground := Ground.data }, { on := 9, ground := Ground.data }, { on := 0, ground := Ground.phase }, { on := 1, ground := Ground.phase }, { on := 2, ground := Ground.phase }, { on := 3, ground := Ground.phase }, { on := 4, ground := Ground.phase }, { on := 5, ground := Ground.phase }, { on := 6, ground := Ground.phase }, { on := 7, ground := Ground.phase }, { on := 8, ground := Ground.phase }, { on := 9, ground := Ground.phase }, { on := 10, ground := Ground.phase }], guard := none }) (by kernel_rfl) rfl (by rfl) (fun w0 hO hX K hK => ?_)
    have hF := hO; (try simp only [Own, Item.Holds, apartI, CellsAt, Nat.reduceAdd, Nat.zero_add, List.mem_cons, List.not_mem_nil, or_false, forall_eq_or_imp, forall_eq, ne_eq, false_imp_iff, implies_true, and_true] at hF); (skip)
    go_simp
    apply hK _ _ _ (fun _ => True)
    (repeat (first | (with_reducible exact hO) | (with_reducible apply Own.alloc) | (with_reducible apply Own.drew) | ((with_reducible apply Own.set_at); (focus (show _ ≤ _; omega)))))
    · first | exact trivial | exact hX | exact hX.below (below1 _) | exact RdIf.gone | exact hX.keep ((Below.refl _ _).setCell (by first | omega | (dsimp only; omega)) _)
    · exact (by first | exact XStab.true | exact XStab.rd | exact XStab.rdIf)
    · first | exact fun _ _ h => h.2 | exact fun _ _ h => h | exact fun h => absurd h (by decide)
    try simp only [upd, updI, List.map_cons, List.map_nil, eq_self, if_true, if_false, reduceIte, Nat.add_eq_left, Nat.left_eq_add, Nat.reduceEqDiff, List.set_cons_zero, List.set_cons_succ, hF]
    clear hK K hF hO
    try simp only [Act.put, List.setIfInBounds_toArray, List.set_cons_zero, List.set_cons_succ]
    refine Sim.done (by kernel_rfl) (fun w1 hO hX => ?_) _
    (try simp only [World.size_alloc1, World.size_drew, Nat.reduceAdd] at hO); (try simp only [upd, updI, List.map_cons, List.map_nil, eq_self, if_true, if_false, reduceIte, Nat.add_eq_left, Nat.left_eq_add, Nat.reduceEqDiff, List.set_cons_zero, List.set_cons_succ] at hO)
    have hF := hO; (try simp only [Own, Item.Holds, apartI, CellsAt, Nat.reduceAdd, Nat.zero_add, List.mem_cons, List.not_mem_nil, or_false, forall_eq_or_imp, forall_eq, ne_eq, false_imp_iff, implies_true, and_true] at hF)
    rotate_left 1
    (have hF := hO; (try simp only [Own, Item.Holds, apartI, CellsAt, Nat.reduceAdd, Nat.zero_add, List.mem_cons, List.not_mem_nil, or_false, forall_eq_or_imp, forall_eq, ne_eq, false_imp_iff, implies_true, and_true] at hF))
    go_simp
    obtain ⟨qa, hqa⟩ : ∃ q, w0.heap.size = q := ⟨_, rfl⟩
    have hO2 := hO.alloc (t := 52) (vs := [.int .i64 0, .slice none 0 0, .slice none 0 0, .slice none 0 0])
    rw [hqa] at hO2 ⊢
    apply hK _ _ _ (fun _ => True)
    · exact hO2
    · exact trivial
    · exact XStab.true
    · exact fun h => absurd h (by decide)
    clear hO hO2 hF hqa
    clear hK K
    try simp only [Act.put, List.setIfInBounds_toArray, List.set_cons_zero, List.set_cons_succ]
    refine Sim.many (rs := [4, 7]) (by kernel_rfl) (by decide) ?_
    refine AllS.cons (oi := { dst := some 36, op := Op.makeSlice 23 (Operand.tmp 35) (Operand.tmp 35), type := 23, pos := "l15_completion.go:45", after := #[{ on := 3, ground := Ground.data }, { on := 3, ground := Ground.data }], guard := none }) rfl (by rfl) (fun w0 hO hX K hK => ?_) ?_
    rotate_left
    refine AllS.cons (oi := { dst := some 39, op := Op.call { callee := Callee.builtin Builtin.len, args := #[Operand.tmp 38], argTypes := #[23] }, type := 3, pos := "l15_completion.go:45", after := #[{ on := 6, ground := Ground.data }], guard := none }) rfl (by rfl) (fun w0 hO hX K hK => ?_) ?_
    rotate_left
    exact AllS.nil
    rotate_right 2
    (have hF := hO; (try simp only [Own, Item.Holds, apartI, CellsAt, Nat.reduceAdd, Nat.zero_add, List.mem_cons, List.not_mem_nil, or_false, forall_eq_or_imp, forall_eq, ne_eq, false_imp_iff, implies_true, and_true] at hF))
    refine wp_make15 _ _ 23 rfl 37 i0 (.agg #[.int .i64 0, .int .i64 0, .int .i64 0]) 3 24 Tryd.underlying23 hi0 hz0 hz1 hz2 N rfl rfl (by omega) (by unfold maxLen; omega) hO ?_
    intro ql wl hO2
    rw [madeP] at hO2
    apply hK _ _ _ (fun _ => True)
    · exact hO2
    · exact trivial
    · exact XStab.true
    · exact fun h => absurd h (by decide)
    clear hO hO2 hF
    clear hK K
    try simp only [Act.put, List.setIfInBounds_toArray, List.set_cons_zero, List.set_cons_succ]
    refine Sim.sP (i := 5) (d := some 37) (h := ?_)
    refine Sim.sO (i := 7) (d := some 39) (v := ?_) (hy := ?_) (h := ?_)
    rotate_left
    · first | refine Or.inl ⟨by rfl, fun w hO => ?_⟩ | (refine Or.inr ⟨by rfl, ?_⟩; with_reducible rfl)
      first | done | (have hF := hO; (try simp only [Own, Item.Holds, apartI, CellsAt, Nat.reduceAdd, Nat.zero_add, List.mem_cons, List.not_mem_nil, or_false, forall_eq_or_imp, forall_eq, ne_eq, false_imp_iff, implies_true, and_true] at hF); (skip); refine Out.same ?_; go_simp; all_goals with_reducible rfl)
    refine Sim.one' (i := 8) (oi := { dst := some 40, op := Op.makeSlice 50 (Operand.tmp 39) (Operand.tmp 39), type := 50, pos := "l15_completion.go:45", after := #[{ on := 7, ground := Ground.data }, { on := 7, ground := Ground.data }], guard := none }) (by kernel_rfl) rfl (by rfl) (fun w0 hO hX K hK => ?_)
    (have hF := hO; (try simp only [Own, Item.Holds, apartI, CellsAt, Nat.reduceAdd, Nat.zero_add, List.mem_cons, List.not_mem_nil, or_false, forall_eq_or_imp, forall_eq, ne_eq, false_imp_iff, implies_true, and_true] at hF))
    refine wp_make15 _ _ 50 rfl 23 i1 (.slice none 0 0) 1 24 Tryd.underlying50 hi1 hy0 hy1 hy2 N rfl rfl (by omega) (by unfold maxLen; omega) hO ?_
    intro qc wc hO2
    rw [madeSt] at hO2
    apply hK _ _ _ (fun _ => True)
    · exact hO2
    · exact trivial
    · exact XStab.true
    · exact fun h => absurd h (by decide)
    clear hO hO2 hF
    clear hK K
    try simp only [Act.put, List.setIfInBounds_toArray, List.set_cons_zero, List.set_cons_succ]
    refine Sim.sP (i := 9) (d := some 41) (h := ?_)
    refine Sim.one' (i := 11) (oi := { dst := none, op := Op.store 52 (Operand.tmp 10) (Operand.tmp 41), type := 0, pos := "l15_completion.go:45", after := #[{ on := 10, ground := Ground.data }, { on := 9, ground := Ground.data }, { on := 0, ground := Ground.phase }, { on := 1, ground := Ground.phase }, { on := 2, ground := Ground.phase }, { on := 3, ground := Ground.phase }, { on := 4, ground := Ground.phase }, { on := 5, ground := Ground.phase }, { on := 6, ground := Ground.phase }, { on := 7, ground := Ground.phase }, { on := 8, ground := Ground.phase }, { on := 9, ground := Ground.phase }, { on := 10, ground := Ground.phase }], guard := none }) (by kernel_rfl) rfl (by rfl) (fun w0 hO hX K hK => ?_)
    have hF := hO; (try simp only [Own, Item.Holds, apartI, CellsAt, Nat.reduceAdd, Nat.zero_add, List.mem_cons, List.not_mem_nil, or_false, forall_eq_or_imp, forall_eq, ne_eq, false_imp_iff, implies_true, and_true] at hF); (skip)
    go_simp
    apply hK _ _ _ (fun _ => True)
    (repeat (first | (with_reducible exact hO) | (with_reducible apply Own.alloc) | (with_reducible apply Own.drew) | ((with_reducible apply Own.set_at); (focus (show _ ≤ _; omega)))))
    · first | exact trivial | exact hX | exact hX.below (below1 _) | exact RdIf.gone | exact hX.keep ((Below.refl _ _).setCell (by first | omega | (dsimp only; omega)) _)
    · exact (by first | exact XStab.true | exact XStab.rd | exact XStab.rdIf)
    · first | exact fun _ _ h => h.2 | exact fun _ _ h => h | exact fun h => absurd h (by decide)
    try simp only [upd, updI, List.map_cons, List.map_nil, eq_self, if_true, if_false, reduceIte, Nat.add_eq_left, Nat.left_eq_add, Nat.reduceEqDiff, List.set_cons_zero, List.set_cons_succ, hF]
    clear hK K hF hO
    try simp only [Act.put, List.setIfInBounds_toArray, List.set_cons_zero, List.set_cons_succ]
    refine Sim.done (by kernel_rfl) (fun w1 hO hX => ?_) _
    (try simp only [World.size_alloc1, World.size_drew, Nat.reduceAdd] at hO); (try simp only [upd, updI, List.map_cons, List.map_nil, eq_self, if_true, if_false, reduceIte, Nat.add_eq_left, Nat.left_eq_add, Nat.reduceEqDiff, List.set_cons_zero, List.set_cons_succ] at hO)
    have hF := hO; (try simp only [Own, Item.Holds, apartI, CellsAt, Nat.reduceAdd, Nat.zero_add, List.mem_cons, List.not_mem_nil, or_false, forall_eq_or_imp, forall_eq, ne_eq, false_imp_iff, implies_true, and_true] at hF)
    rotate_left 1
    have hF := hO; (try simp only [Own, Item.Holds, apartI, CellsAt, Nat.reduceAdd, Nat.zero_add, List.mem_cons, List.not_mem_nil, or_false, forall_eq_or_imp, forall_eq, ne_eq, false_imp_iff, implies_true, and_true] at hF)
    go_simp
    apply hK _ _ _ (fun _ => True)
    (repeat (first | (with_reducible exact hO) | (with_reducible apply Own.alloc) | (with_reducible apply Own.drew) | ((with_reducible apply Own.set_at); (focus (show _ ≤ _; omega)))))
    · first | exact trivial | exact hX | exact hX.below (below1 _) | exact RdIf.gone | exact hX.keep ((Below.refl _ _).setCell (by first | omega | (dsimp only; omega)) _)
    · exact (by first | exact XStab.true | exact XStab.rd | exact XStab.rdIf)
    · first | exact fun _ _ h => h.2 | exact fun _ _ h => h | exact fun h => absurd h (by decide)
    try simp only [upd, updI, List.map_cons, List.map_nil, eq_self, if_true, if_false, reduceIte, Nat.add_eq_left, Nat.left_eq_add, Nat.reduceEqDiff, List.set_cons_zero, List.set_cons_succ, hF]
    clear hK K hF hO
    try simp only [Act.put, List.setIfInBounds_toArray, List.set_cons_zero, List.set_cons_succ]
    refine Sim.many (rs := [4, 8]) (by kernel_rfl) (by decide) ?_
    refine AllS.cons (oi := { dst := some 36, op := Op.makeSlice 23 (Operand.tmp 35) (Operand.tmp 35), type := 23, pos := "l15_completion.go:45", after := #[{ on := 3, ground := Ground.data }, { on := 3, ground := Ground.data }], guard := none }) rfl (by rfl) (fun w0 hO hX K hK => ?_) ?_
    rotate_left
    refine AllS.cons (oi := { dst := some 40, op := Op.makeSlice 50 (Operand.tmp 39) (Operand.tmp 39), type := 50, pos := "l15_completion.go:45", after := #[{ on := 7, ground := Ground.data }, { on := 7, ground := Ground.data }], guard := none }) rfl (by rfl) (fun w0 hO hX K hK => ?_) ?_
    rotate_left
    exact AllS.nil
    rotate_right 2
    (have hF := hO; (try simp only [Own, Item.Holds, apartI, CellsAt, Nat.reduceAdd, Nat.zero_add, List.mem_cons, List.not_mem_nil, or_false, forall_eq_or_imp, forall_eq, ne_eq, false_imp_iff, implies_true, and_true] at hF))
    refine wp_make15 _ _ 23 rfl 37 i0 (.agg #[.int .i64 0, .int .i64 0, .int .i64 0]) 3 24 Tryd.underlying23 hi0 hz0 hz1 hz2 N rfl rfl (by omega) (by unfold maxLen; omega) hO ?_
    intro ql wl hO2
    rw [madeP] at hO2
    apply hK _ _ _ (fun _ => True)
    · exact hO2
    · exact trivial
    · exact XStab.true
    · exact fun h => absurd h (by decide)
    clear hO hO2 hF
    clear hK K
    try simp only [Act.put, List.setIfInBounds_toArray, List.set_cons_zero, List.set_cons_succ]
    refine Sim.sP (i := 5) (d := some 37) (h := ?_)
    refine Sim.one' (i := 8) (oi := { dst := some 40, op := Op.makeSlice 50 (Operand.tmp 39) (Operand.tmp 39), type := 50, pos := "l15_completion.go:45", after := #[{ on := 7, ground := Ground.data }, { on := 7, ground := Ground.data }], guard := none }) (by kernel_rfl) rfl (by rfl) (fun w0 hO hX K hK => ?_)
    (have hF := hO; (try simp only [Own, Item.Holds, apartI, CellsAt, Nat.reduceAdd, Nat.zero_add, List.mem_cons, List.not_mem_nil, or_false, forall_eq_or_imp, forall_eq, ne_eq, false_imp_iff, implies_true, and_true] at hF))
    refine wp_make15 _ _ 50 rfl 23 i1 (.slice none 0 0) 1 24 Tryd.underlying50 hi1 hy0 hy1 hy2 N rfl rfl (by omega) (by unfold maxLen; omega) hO ?_
    intro qc wc hO2
    rw [madeSt] at hO2
    apply hK _ _ _ (fun _ => True)
    · exact hO2
    · exact trivial
    · exact XStab.true
    · exact fun h => absurd h (by decide)
    clear hO hO2 hF
    clear hK K
    try simp only [Act.put, List.setIfInBounds_toArray, List.set_cons_zero, List.set_cons_succ]
    refine Sim.sP (i := 9) (d := some 41) (h := ?_)
    refine Sim.one' (i := 11) (oi := { dst := none, op := Op.store 52 (Operand.tmp 10) (Operand.tmp 41), type := 0, pos := "l15_completion.go:45", after := #[{ on := 10, ground := Ground.data }, { on := 9, ground := Ground.data }, { on := 0, ground := Ground.phase }, { on := 1, ground := Ground.phase }, { on := 2, ground := Ground.phase }, { on := 3, ground := Ground.phase }, { on := 4, ground := Ground.phase }, { on := 5, ground := Ground.phase }, { on := 6, ground := Ground.phase }, { on := 7, ground := Ground.phase }, { on := 8, ground := Ground.phase }, { on := 9, ground := Ground.phase }, { on := 10, ground := Ground.phase }], guard := none }) (by kernel_rfl) rfl (by rfl) (fun w0 hO hX K hK => ?_)
    have hF := hO; (try simp only [Own, Item.Holds, apartI, CellsAt, Nat.reduceAdd, Nat.zero_add, List.mem_cons, List.not_mem_nil, or_false, forall_eq_or_imp, forall_eq, ne_eq, false_imp_iff, implies_true, and_true] at hF); (skip)
    go_simp
    apply hK _ _ _ (fun _ => True)
    (repeat (first | (with_reducible exact hO) | (with_reducible apply Own.alloc) | (with_reducible apply Own.drew) | ((with_reducible apply Own.set_at); (focus (show _ ≤ _; omega)))))
    · first | exact trivial | exact hX | exact hX.below (below1 _) | exact RdIf.gone | exact hX.keep ((Below.refl _ _).setCell (by first | omega | (dsimp only; omega)) _)
    · exact (by first | exact XStab.true | exact XStab.rd | exact XStab.rdIf)
    · first | exact fun _ _ h => h.2 | exact fun _ _ h => h | exact fun h => absurd h (by decide)
    try simp only [upd, updI, List.map_cons, List.map_nil, eq_self, if_true, if_false, reduceIte, Nat.add_eq_left, Nat.left_eq_add, Nat.reduceEqDiff, List.set_cons_zero, List.set_cons_succ, hF]
    clear hK K hF hO
    try simp only [Act.put, List.setIfInBounds_toArray, List.set_cons_zero, List.set_cons_succ]
    refine Sim.done (by kernel_rfl) (fun w1 hO hX => ?_) _
    (try simp only [World.size_alloc1, World.size_drew, Nat.reduceAdd] at hO); (try simp only [upd, updI, List.map_cons, List.map_nil, eq_self, if_true, if_false, reduceIte, Nat.add_eq_left, Nat.left_eq_add, Nat.reduceEqDiff, List.set_cons_zero, List.set_cons_succ] at hO)
    have hF := hO; (try simp only [Own, Item.Holds, apartI, CellsAt, Nat.reduceAdd, Nat.zero_add, List.mem_cons, List.not_mem_nil, or_false, forall_eq_or_imp, forall_eq, ne_eq, false_imp_iff, implies_true, and_true] at hF)
    rotate_left 1
    (have hF := hO; (try simp only [Own, Item.Holds, apartI, CellsAt, Nat.reduceAdd, Nat.zero_add, List.mem_cons, List.not_mem_nil, or_false, forall_eq_or_imp, forall_eq, ne_eq, false_imp_iff, implies_true, and_true] at hF))
    refine wp_make15 _ _ 50 rfl 23 i1 (.slice none 0 0) 1 24 Tryd.underlying50 hi1 hy0 hy1 hy2 N rfl rfl (by omega) (by unfold maxLen; omega) hO ?_
    intro qc wc hO2
    rw [madeSt] at hO2
    apply hK _ _ _ (fun _ => True)
    · exact hO2
    · exact trivial
    · exact XStab.true
    · exact fun h => absurd h (by decide)
    clear hO hO2 hF
    clear hK K
    try simp only [Act.put, List.setIfInBounds_toArray, List.set_cons_zero, List.set_cons_succ]
    refine Sim.one' (i := 4) (oi := { dst := some 36, op := Op.makeSlice 23 (Operand.tmp 35) (Operand.tmp 35), type := 23, pos := "l15_completion.go:45", after := #[{ on := 3, ground := Ground.data }, { on := 3, ground := Ground.data }], guard := none }) (by kernel_rfl) rfl (by rfl) (fun w0 hO hX K hK => ?_)
    (have hF := hO; (try simp only [Own, Item.Holds, apartI, CellsAt, Nat.reduceAdd, Nat.zero_add, List.mem_cons, List.not_mem_nil, or_false, forall_eq_or_imp, forall_eq, ne_eq, false_imp_iff, implies_true, and_true] at hF))
    refine wp_make15 _ _ 23 rfl 37 i0 (.agg #[.int .i64 0, .int .i64 0, .int .i64 0]) 3 24 Tryd.underlying23 hi0 hz0 hz1 hz2 N rfl rfl (by omega) (by unfold maxLen; omega) hO ?_
    intro ql wl hO2
    rw [madeP] at hO2
    apply hK _ _ _ (fun _ => True)
    · exact hO2
    · exact trivial
    · exact XStab.true
    · exact fun h => absurd h (by decide)
    clear hO hO2 hF
    clear hK K
    try simp only [Act.put, List.setIfInBounds_toArray, List.set_cons_zero, List.set_cons_succ]
    refine Sim.sP (i := 5) (d := some 37) (h := ?_)
    refine Sim.sP (i := 9) (d := some 41) (h := ?_)
    refine Sim.one' (i := 11) (oi := { dst := none, op := Op.store 52 (Operand.tmp 10) (Operand.tmp 41), type := 0, pos := "l15_completion.go:45", after := #[{ on := 10, ground := Ground.data }, { on := 9, ground := Ground.data }, { on := 0, ground := Ground.phase }, { on := 1, ground := Ground.phase }, { on := 2, ground := Ground.phase }, { on := 3, ground := Ground.phase }, { on := 4, ground := Ground.phase }, { on := 5, ground := Ground.phase }, { on := 6, ground := Ground.phase }, { on := 7, ground := Ground.phase }, { on := 8, ground := Ground.phase }, { on := 9, ground := Ground.phase }, { on := 10, ground := Ground.phase }], guard := none }) (by kernel_rfl) rfl (by rfl) (fun w0 hO hX K hK => ?_)
    have hF := hO; (try simp only [Own, Item.Holds, apartI, CellsAt, Nat.reduceAdd, Nat.zero_add, List.mem_cons, List.not_mem_nil, or_false, forall_eq_or_imp, forall_eq, ne_eq, false_imp_iff, implies_true, and_true] at hF); (skip)
    go_simp
    apply hK _ _ _ (fun _ => True)
    (repeat (first | (with_reducible exact hO) | (with_reducible apply Own.alloc) | (with_reducible apply Own.drew) | ((with_reducible apply Own.set_at); (focus (show _ ≤ _; omega)))))
    · first | exact trivial | exact hX | exact hX.below (below1 _) | exact RdIf.gone | exact hX.keep ((Below.refl _ _).setCell (by first | omega | (dsimp only; omega)) _)
    · exact (by first | exact XStab.true | exact XStab.rd | exact XStab.rdIf)
    · first | exact fun _ _ h => h.2 | exact fun _ _ h => h | exact fun h => absurd h (by decide)
    try simp only [upd, updI, List.map_cons, List.map_nil, eq_self, if_true, if_false, reduceIte, Nat.add_eq_left, Nat.left_eq_add, Nat.reduceEqDiff, List.set_cons_zero, List.set_cons_succ, hF]
    clear hK K hF hO
    try simp only [Act.put, List.setIfInBounds_toArray, List.set_cons_zero, List.set_cons_succ]
    refine Sim.done (by kernel_rfl) (fun w1 hO hX => ?_) _
    (try simp only [World.size_alloc1, World.size_drew, Nat.reduceAdd] at hO); (try simp only [upd, updI, List.map_cons, List.map_nil, eq_self, if_true, if_false, reduceIte, Nat.add_eq_left, Nat.left_eq_add, Nat.reduceEqDiff, List.set_cons_zero, List.set_cons_succ] at hO)
    have hF := hO; (try simp only [Own, Item.Holds, apartI, CellsAt, Nat.reduceAdd, Nat.zero_add, List.mem_cons, List.not_mem_nil, or_false, forall_eq_or_imp, forall_eq, ne_eq, false_imp_iff, implies_true, and_true] at hF)
    rotate_left 1
    have hF := hO; (try simp only [Own, Item.Holds, apartI, CellsAt, Nat.reduceAdd, Nat.zero_add, List.mem_cons, List.not_mem_nil, or_false, forall_eq_or_imp, forall_eq, ne_eq, false_imp_iff, implies_true, and_true] at hF)
    go_simp
    apply hK _ _ _ (fun _ => True)
    (repeat (first | (with_reducible exact hO) | (with_reducible apply Own.alloc) | (with_reducible apply Own.drew) | ((with_reducible apply Own.set_at); (focus (show _ ≤ _; omega)))))
    · first | exact trivial | exact hX | exact hX.below (below1 _) | exact RdIf.gone | exact hX.keep ((Below.refl _ _).setCell (by first | omega | (dsimp only; omega)) _)
    · exact (by first | exact XStab.true | exact XStab.rd | exact XStab.rdIf)
    · first | exact fun _ _ h => h.2 | exact fun _ _ h => h | exact fun h => absurd h (by decide)
    try simp only [upd, updI, List.map_cons, List.map_nil, eq_self, if_true, if_false, reduceIte, Nat.add_eq_left, Nat.left_eq_add, Nat.reduceEqDiff, List.set_cons_zero, List.set_cons_succ, hF]
    clear hK K hF hO
    try simp only [Act.put, List.setIfInBounds_toArray, List.set_cons_zero, List.set_cons_succ]
    refine Sim.many (rs := [3, 8, 10]) (by kernel_rfl) (by decide) ?_
    refine AllS.cons (oi := { dst := some 35, op := Op.call { callee := Callee.builtin Builtin.len, args := #[Operand.tmp 34], argTypes := #[23] }, type := 3, pos := "l15_completion.go:45", after := #[{ on := 2, ground := Ground.data }], guard := none }) rfl (by rfl) (fun w0 hO hX K hK => ?_) ?_
    rotate_left
    refine AllS.cons (oi := { dst := some 40, op := Op.makeSlice 50 (Operand.tmp 39) (Operand.tmp 39), type := 50, pos := "l15_completion.go:45", after := #[{ on := 7, ground := Ground.data }, { on := 7, ground := Ground.data }], guard := none }) rfl (by rfl) (fun w0 hO hX K hK => ?_) ?_
    rotate_left
    refine AllS.cons (oi := { dst := some 10, op := Op.alloc 52, type := 0, pos := "l15_completion.go:45", after := #[], guard := none }) rfl (by rfl) (fun w0 hO hX K hK => ?_) ?_
    rotate_left
    exact AllS.nil
    rotate_right 3
    have hF := hO; (try simp only [Own, Item.Holds, apartI, CellsAt, Nat.reduceAdd, Nat.zero_add, List.mem_cons, List.not_mem_nil, or_false, forall_eq_or_imp, forall_eq, ne_eq, false_imp_iff, implies_true, and_true] at hF)
    go_simp
    apply hK _ _ _ (fun _ => True)
    (repeat (first | (with_reducible exact hO) | (with_reducible apply Own.alloc) | (with_reducible apply Own.drew) | ((with_reducible apply Own.set_at); (focus (show _ ≤ _; omega)))))
    · first | exact trivial | exact hX | exact hX.below (below1 _) | exact RdIf.gone | exact hX.keep ((Below.refl _ _).setCell (by first | omega | (dsimp only; omega)) _)
    · exact (by first | exact XStab.true | exact XStab.rd | exact XStab.rdIf)
    · first | exact fun _ _ h => h.2 | exact fun _ _ h => h | exact fun h => absurd h (by decide)
    try simp only [upd, updI, List.map_cons, List.map_nil, eq_self, if_true, if_false, reduceIte, Nat.add_eq_left, Nat.left_eq_add, Nat.reduceEqDiff, List.set_cons_zero, List.set_cons_succ, hF]
    clear hK K hF hO
    try simp only [Act.put, List.setIfInBounds_toArray, List.set_cons_zero, List.set_cons_succ]
    refine Sim.many (rs := [4, 8, 10]) (by kernel_rfl) (by decide) ?_
    refine AllS.cons (oi := { dst := some 36, op := Op.makeSlice 23 (Operand.tmp 35) (Operand.tmp 35), type := 23, pos := "l15_completion.go:45", after := #[{ on := 3, ground := Ground.data }, { on := 3, ground := Ground.data }], guard := none }) rfl (by rfl) (fun w0 hO hX K hK => ?_) ?_
    rotate_left
    refine AllS.cons (oi := { dst := some 40, op := Op.makeSlice 50 (Operand.tmp 39) (Operand.tmp 39), type := 50, pos := "l15_completion.go:45", after := #[{ on := 7, ground := Ground.data }, { on := 7, ground := Ground.data }], guard := none }) rfl (by rfl) (fun w0 hO hX K hK => ?_) ?_
    rotate_left
    refine AllS.cons (oi := { dst := some 10, op := Op.alloc 52, type := 0, pos := "l15_completion.go:45", after := #[], guard := none }) rfl (by rfl) (fun w0 hO hX K hK => ?_) ?_
    rotate_left
    exact AllS.nil
    rotate_right 3
    (have hF := hO; (try simp only [Own, Item.Holds, apartI, CellsAt, Nat.reduceAdd, Nat.zero_add, List.mem_cons, List.not_mem_nil, or_false, forall_eq_or_imp, forall_eq, ne_eq, false_imp_iff, implies_true, and_true] at hF))
    refine wp_make15 _ _ 23 rfl 37 i0 (.agg #[.int .i64 0, .int .i64 0, .int .i64 0]) 3 24 Tryd.underlying23 hi0 hz0 hz1 hz2 N rfl rfl (by omega) (by unfold maxLen; omega) hO ?_
    intro ql wl hO2
    rw [madeP] at hO2
    apply hK _ _ _ (fun _ => True)
    · exact hO2
    · exact trivial
    · exact XStab.true
    · exact fun h => absurd h (by decide)
    clear hO hO2 hF
    clear hK K
    try simp only [Act.put, List.setIfInBounds_toArray, List.set_cons_zero, List.set_cons_succ]
    refine Sim.sP (i := 5) (d := some 37) (h := ?_)
    refine Sim.many (rs := [8, 10]) (by kernel_rfl) (by decide) ?_
    refine AllS.cons (oi := { dst := some 40, op := Op.makeSlice 50 (Operand.tmp 39) (Operand.tmp 39), type := 50, pos := "l15_completion.go:45", after := #[{ on := 7, ground := Ground.data }, { on := 7, ground := Ground.data }], guard := none }) rfl (by rfl) (fun w0 hO hX K hK => ?_) ?_
    rotate_left
    refine AllS.cons (oi := { dst := some 10, op := Op.alloc 52, type := 0, pos := "l15_completion.go:45", after := #[], guard := none }) rfl (by rfl) (fun w0 hO hX K hK => ?_) ?_
    rotate_left
    exact AllS.nil
    rotate_right 2
    (have hF := hO; (try simp only [Own, Item.Holds, apartI, CellsAt, Nat.reduceAdd, Nat.zero_add, List.mem_cons, List.not_mem_nil, or_false, forall_eq_or_imp, forall_eq, ne_eq, false_imp_iff, implies_true, and_true] at hF))
    refine wp_make15 _ _ 50 rfl 23 i1 (.slice none 0 0) 1 24 Tryd.underlying50 hi1 hy0 hy1 hy2 N rfl rfl (by omega) (by unfold maxLen; omega) hO ?_
    intro qc wc hO2
    rw [madeSt] at hO2
    apply hK _ _ _ (fun _ => True)
    · exact hO2
    · exact trivial
    · exact XStab.true
    · exact fun h => absurd h (by decide)
    clear hO hO2 hF
    clear hK K
    try simp only [Act.put, List.setIfInBounds_toArray, List.set_cons_zero, List.set_cons_succ]
    refine Sim.sP (i := 9) (d := some 41) (h := ?_)
    refine Sim.one' (i := 10) (oi := { dst := some 10, op := Op.alloc 52, type := 0, pos := "l15_completion.go:45", after := #[], guard := none }) (by kernel_rfl) rfl (by rfl) (fun w0 hO hX K hK => ?_)
    (have hF := hO; (try simp only [Own, Item.Holds, apartI, CellsAt, Nat.reduceAdd, Nat.zero_add, List.mem_cons, List.not_mem_nil, or_false, forall_eq_or_imp, forall_eq, ne_eq, false_imp_iff, implies_true, and_true] at hF))
    go_simp
    obtain ⟨qa, hqa⟩ : ∃ q, w0.heap.size = q := ⟨_, rfl⟩
    have hO2 := hO.alloc (t := 52) (vs := [.int .i64 0, .slice none 0 0, .slice none 0 0, .slice none 0 0])
    rw [hqa] at hO2 ⊢
    apply hK _ _ _ (fun _ => True)
    · exact hO2
    · exact trivial
    · exact XStab.true
    · exact fun h => absurd h (by decide)
    clear hO hO2 hF hqa
    clear hK K
    try simp only [Act.put, List.setIfInBounds_toArray, List.set_cons_zero, List.set_cons_succ]
    refine Sim.one' (i := 11) (oi := { dst := none, op := Op.store 52 (Operand.tmp 10) (Operand.tmp 41), type := 0, pos := "l15_completion.go:45", after := #[{ on := 10, ground := Ground.data }, { on := 9, ground := Ground.data }, { on := 0, ground := Ground.phase }, { on := 1, ground := Ground.phase }, { on := 2, ground := Ground.phase }, { on := 3, ground := Ground.phase }, { on := 4, ground := Ground.phase }, { on := 5, ground := Ground.phase }, { on := 6, ground := Ground.phase }, { on := 7, ground := Ground.phase }, { on := 8, ground := Ground.phase }, { on := 9, ground := Ground.phase }, { on := 10, ground := Ground.phase }], guard := none }) (by kernel_rfl) rfl (by rfl) (fun w0 hO hX K hK => ?_)
    have hF := hO; (try simp only [Own, Item.Holds, apartI, CellsAt, Nat.reduceAdd, Nat.zero_add, List.mem_cons, List.not_mem_nil, or_false, forall_eq_or_imp, forall_eq, ne_eq, false_imp_iff, implies_true, and_true] at hF); (skip)
    go_simp
    apply hK _ _ _ (fun _ => True)
    (repeat (first | (with_reducible exact hO) | (with_reducible apply Own.alloc) | (with_reducible apply Own.drew) | ((with_reducible apply Own.set_at); (focus (show _ ≤ _; omega)))))
    · first | exact trivial | exact hX | exact hX.below (below1 _) | exact RdIf.gone | exact hX.keep ((Below.refl _ _).setCell (by first | omega | (dsimp only; omega)) _)
    · exact (by first | exact XStab.true | exact XStab.rd | exact XStab.rdIf)
    · first | exact fun _ _ h => h.2 | exact fun _ _ h => h | exact fun h => absurd h (by decide)
    try simp only [upd, updI, List.map_cons, List.map_nil, eq_self, if_true, if_false, reduceIte, Nat.add_eq_left, Nat.left_eq_add, Nat.reduceEqDiff, List.set_cons_zero, List.set_cons_succ, hF]
    clear hK K hF hO
    try simp only [Act.put, List.setIfInBounds_toArray, List.set_cons_zero, List.set_cons_succ]
    refine Sim.done (by kernel_rfl) (fun w1 hO hX => ?_) _
    (try simp only [World.size_alloc1, World.size_drew, Nat.reduceAdd] at hO); (try simp only [upd, updI, List.map_cons, List.map_nil, eq_self, if_true, if_false, reduceIte, Nat.add_eq_left, Nat.left_eq_add, Nat.reduceEqDiff, List.set_cons_zero, List.set_cons_succ] at hO)
    have hF := hO; (try simp only [Own, Item.Holds, apartI, CellsAt, Nat.reduceAdd, Nat.zero_add, List.mem_cons, List.not_mem_nil, or_false, forall_eq_or_imp, forall_eq, ne_eq, false_imp_iff, implies_true, and_true] at hF)
    rotate_left 1
    (have hF := hO; (try simp only [Own, Item.Holds, apartI, CellsAt, Nat.reduceAdd, Nat.zero_add, List.mem_cons, List.not_mem_nil, or_false, forall_eq_or_imp, forall_eq, ne_eq, false_imp_iff, implies_true, and_true] at hF))
    go_simp
    obtain ⟨qa, hqa⟩ : ∃ q, w0.heap.size = q := ⟨_, rfl⟩
    have hO2 := hO.alloc (t := 52) (vs := [.int .i64 0, .slice none 0 0, .slice none 0 0, .slice none 0 0])
    rw [hqa] at hO2 ⊢
    apply hK _ _ _ (fun _ => True)
    · exact hO2
    · exact trivial
    · exact XStab.true
    · exact fun h => absurd h (by decide)
    clear hO hO2 hF hqa
    clear hK K
    try simp only [Act.put, List.setIfInBounds_toArray, List.set_cons_zero, List.set_cons_succ]
    refine Sim.one' (i := 8) (oi := { dst := some 40, op := Op.makeSlice 50 (Operand.tmp 39) (Operand.tmp 39), type := 50, pos := "l15_completion.go:45", after := #[{ on := 7, ground := Ground.data }, { on := 7, ground := Ground.data }], guard := none }) (by kernel_rfl) rfl (by rfl) (fun w0 hO hX K hK => ?_)
    (have hF := hO; (try simp only [Own, Item.Holds, apartI, CellsAt, Nat.reduceAdd, Nat.zero_add, List.mem_cons, List.not_mem_nil, or_false, forall_eq_or_imp, forall_eq, ne_eq, false_imp_iff, implies_true, and_true] at hF))
    refine wp_make15 _ _ 50 rfl 23 i1 (.slice none 0 0) 1 24 Tryd.underlying50 hi1 hy0 hy1 hy2 N rfl rfl (by omega) (by unfold maxLen; omega) hO ?_
    intro qc wc hO2
    rw [madeSt] at hO2
    apply hK _ _ _ (fun _ => True)
    · exact hO2
    · exact trivial
    · exact XStab.true
    · exact fun h => absurd h (by decide)
    clear hO hO2 hF
    clear hK K
    try simp only [Act.put, List.setIfInBounds_toArray, List.set_cons_zero, List.set_cons_succ]
    refine Sim.sP (i := 9) (d := some 41) (h := ?_)
    refine Sim.one' (i := 11) (oi := { dst := none, op := Op.store 52 (Operand.tmp 10) (Operand.tmp 41), type := 0, pos := "l15_completion.go:45", after := #[{ on := 10, ground := Ground.data }, { on := 9, ground := Ground.data }, { on := 0, ground := Ground.phase }, { on := 1, ground := Ground.phase }, { on := 2, ground := Ground.phase }, { on := 3, ground := Ground.phase }, { on := 4, ground := Ground.phase }, { on := 5, ground := Ground.phase }, { on := 6, ground := Ground.phase }, { on := 7, ground := Ground.phase }, { on := 8, ground := Ground.phase }, { on := 9, ground := Ground.phase }, { on := 10, ground := Ground.phase }], guard := none }) (by kernel_rfl) rfl (by rfl) (fun w0 hO hX K hK => ?_)
    have hF := hO; (try simp only [Own, Item.Holds, apartI, CellsAt, Nat.reduceAdd, Nat.zero_add, List.mem_cons, List.not_mem_nil, or_false, forall_eq_or_imp, forall_eq, ne_eq, false_imp_iff, implies_true, and_true] at hF); (skip)
    go_simp
    apply hK _ _ _ (fun _ => True)
    (repeat (first | (with_reducible exact hO) | (with_reducible apply Own.alloc) | (with_reducible apply Own.drew) | ((with_reducible apply Own.set_at); (focus (show _ ≤ _; omega)))))
    · first | exact trivial | exact hX | exact hX.below (below1 _) | exact RdIf.gone | exact hX.keep ((Below.refl _ _).setCell (by first | omega | (dsimp only; omega)) _)
    · exact (by first | exact XStab.true | exact XStab.rd | exact XStab.rdIf)
    · first | exact fun _ _ h => h.2 | exact fun _ _ h => h | exact fun h => absurd h (by decide)
    try simp only [upd, updI, List.map_cons, List.map_nil, eq_self, if_true, if_false, reduceIte, Nat.add_eq_left, Nat.left_eq_add, Nat.reduceEqDiff, List.set_cons_zero, List.set_cons_succ, hF]
    clear hK K hF hO
    try simp only [Act.put, List.setIfInBounds_toArray, List.set_cons_zero, List.set_cons_succ]
    refine Sim.done (by kernel_rfl) (fun w1 hO hX => ?_) _
    (try simp only [World.size_alloc1, World.size_drew, Nat.reduceAdd] at hO); (try simp only [upd, updI, List.map_cons, List.map_nil, eq_self, if_true, if_false, reduceIte, Nat.add_eq_left, Nat.left_eq_add, Nat.reduceEqDiff, List.set_cons_zero, List.set_cons_succ] at hO)
    have hF := hO; (try simp only [Own, Item.Holds, apartI, CellsAt, Nat.reduceAdd, Nat.zero_add, List.mem_cons, List.not_mem_nil, or_false, forall_eq_or_imp, forall_eq, ne_eq, false_imp_iff, implies_true, and_true] at hF)
    rotate_left 1
    (have hF := hO; (try simp only [Own, Item.Holds, apartI, CellsAt, Nat.reduceAdd, Nat.zero_add, List.mem_cons, List.not_mem_nil, or_false, forall_eq_or_imp, forall_eq, ne_eq, false_imp_iff, implies_true, and_true] at hF))
    refine wp_make15 _ _ 50 rfl 23 i1 (.slice none 0 0) 1 24 Tryd.underlying50 hi1 hy0 hy1 hy2 N rfl rfl (by omega) (by unfold maxLen; omega) hO ?_
    intro qc wc hO2
    rw [madeSt] at hO2
    apply hK _ _ _ (fun _ => True)
    · exact hO2
    · exact trivial
    · exact XStab.true
    · exact fun h => absurd h (by decide)
    clear hO hO2 hF
    clear hK K
    try simp only [Act.put, List.setIfInBounds_toArray, List.set_cons_zero, List.set_cons_succ]
    refine Sim.many (rs := [4, 10]) (by kernel_rfl) (by decide) ?_
    refine AllS.cons (oi := { dst := some 36, op := Op.makeSlice 23 (Operand.tmp 35) (Operand.tmp 35), type := 23, pos := "l15_completion.go:45", after := #[{ on := 3, ground := Ground.data }, { on := 3, ground := Ground.data }], guard := none }) rfl (by rfl) (fun w0 hO hX K hK => ?_) ?_
    rotate_left
    refine AllS.cons (oi := { dst := some 10, op := Op.alloc 52, type := 0, pos := "l15_completion.go:45", after := #[], guard := none }) rfl (by rfl) (fun w0 hO hX K hK => ?_) ?_
    rotate_left
    exact AllS.nil
    rotate_right 2
    (have hF := hO; (try simp only [Own, Item.Holds, apartI, CellsAt, Nat.reduceAdd, Nat.zero_add, List.mem_cons, List.not_mem_nil, or_false, forall_eq_or_imp, forall_eq, ne_eq, false_imp_iff, implies_true, and_true] at hF))
    refine wp_make15 _ _ 23 rfl 37 i0 (.agg #[.int .i64 0, .int .i64 0, .int .i64 0]) 3 24 Tryd.underlying23 hi0 hz0 hz1 hz2 N rfl rfl (by omega) (by unfold maxLen; omega) hO ?_
    intro ql wl hO2
    rw [madeP] at hO2
    apply hK _ _ _ (fun _ => True)
    · exact hO2
    · exact trivial
    · exact XStab.true
    · exact fun h => absurd h (by decide)
    clear hO hO2 hF
    clear hK K
    try simp only [Act.put, List.setIfInBounds_toArray, List.set_cons_zero, List.set_cons_succ]
    refine Sim.sP (i := 5) (d := some 37) (h := ?_)
    refine Sim.sP (i := 9) (d := some 41) (h := ?_)
    refine Sim.one' (i := 10) (oi := { dst := some 10, op := Op.alloc 52, type := 0, pos := "l15_completion.go:45", after := #[], guard := none }) (by kernel_rfl) rfl (by rfl) (fun w0 hO hX K hK => ?_)
    (have hF := hO; (try simp only [Own, Item.Holds, apartI, CellsAt, Nat.reduceAdd, Nat.zero_add, List.mem_cons, List.not_mem_nil, or_false, forall_eq_or_imp, forall_eq, ne_eq, false_imp_iff, implies_true, and_true] at hF))
    go_simp
    obtain ⟨qa, hqa⟩ : ∃ q, w0.heap.size = q := ⟨_, rfl⟩
    have hO2 := hO.alloc (t := 52) (vs := [.int .i64 0, .slice none 0 0, .slice none 0 0, .slice none 0 0])
    rw [hqa] at hO2 ⊢
    apply hK _ _ _ (fun _ => True)
    · exact hO2
    · exact trivial
    · exact XStab.true
    · exact fun h => absurd h (by decide)
    clear hO hO2 hF hqa
    clear hK K
    try simp only [Act.put, List.setIfInBounds_toArray, List.set_cons_zero, List.set_cons_succ]
    refine Sim.one' (i := 11) (oi := { dst := none, op := Op.store 52 (Operand.tmp 10) (Operand.tmp 41), type := 0, pos := "l15_completion.go:45", after := #[{ on := 10, ground := Ground.data }, { on := 9, ground := Ground.data }, { on := 0, ground := Ground.phase }, { on := 1, ground := Ground.phase }, { on := 2, ground := Ground.phase }, { on := 3, ground := Ground.phase }, { on := 4, ground := Ground.phase }, { on := 5, ground := Ground.phase }, { on := 6, ground := Ground.phase }, { on := 7, ground := Ground.phase }, { on := 8, ground := Ground.phase }, { on := 9, ground := Ground.phase }, { on := 10, ground := Ground.phase }], guard := none }) (by kernel_rfl) rfl (by rfl) (fun w0 hO hX K hK => ?_)
    have hF := hO; (try simp only [Own, Item.Holds, apartI, CellsAt, Nat.reduceAdd, Nat.zero_add, List.mem_cons, List.not_mem_nil, or_false, forall_eq_or_imp, forall_eq, ne_eq, false_imp_iff, implies_true, and_true] at hF); (skip)
    go_simp
    apply hK _ _ _ (fun _ => True)
    (repeat (first | (with_reducible exact hO) | (with_reducible apply Own.alloc) | (with_reducible apply Own.drew) | ((with_reducible apply Own.set_at); (focus (show _ ≤ _; omega)))))
    · first | exact trivial | exact hX | exact hX.below (below1 _) | exact RdIf.gone | exact hX.keep ((Below.refl _ _).setCell (by first | omega | (dsimp only; omega)) _)
    · exact (by first | exact XStab.true | exact XStab.rd | exact XStab.rdIf)
    · first | exact fun _ _ h => h.2 | exact fun _ _ h => h | exact fun h => absurd h (by decide)
    try simp only [upd, updI, List.map_cons, List.map_nil, eq_self, if_true, if_false, reduceIte, Nat.add_eq_left, Nat.left_eq_add, Nat.reduceEqDiff, List.set_cons_zero, List.set_cons_succ, hF]
    clear hK K hF hO
    try simp only [Act.put, List.setIfInBounds_toArray, List.set_cons_zero, List.set_cons_succ]
    refine Sim.done (by kernel_rfl) (fun w1 hO hX => ?_) _
    (try simp only [World.size_alloc1, World.size_drew, Nat.reduceAdd] at hO); (try simp only [upd, updI, List.map_cons, List.map_nil, eq_self, if_true, if_false, reduceIte, Nat.add_eq_left, Nat.left_eq_add, Nat.reduceEqDiff, List.set_cons_zero, List.set_cons_succ] at hO)
    have hF := hO; (try simp only [Own, Item.Holds, apartI, CellsAt, Nat.reduceAdd, Nat.zero_add, List.mem_cons, List.not_mem_nil, or_false, forall_eq_or_imp, forall_eq, ne_eq, false_imp_iff, implies_true, and_true] at hF)
    rotate_left 1
    (have hF := hO; (try simp only [Own, Item.Holds, apartI, CellsAt, Nat.reduceAdd, Nat.zero_add, List.mem_cons, List.not_mem_nil, or_false, forall_eq_or_imp, forall_eq, ne_eq, false_imp_iff, implies_true, and_true] at hF))
    go_simp
    obtain ⟨qa, hqa⟩ : ∃ q, w0.heap.size = q := ⟨_, rfl⟩
    have hO2 := hO.alloc (t := 52) (vs := [.int .i64 0, .slice none 0 0, .slice none 0 0, .slice none 0 0])
    rw [hqa] at hO2 ⊢
    apply hK _ _ _ (fun _ => True)
    · exact hO2
    · exact trivial
    · exact XStab.true
    · exact fun h => absurd h (by decide)
    clear hO hO2 hF hqa
    clear hK K
    try simp only [Act.put, List.setIfInBounds_toArray, List.set_cons_zero, List.set_cons_succ]
    refine Sim.one' (i := 4) (oi := { dst := some 36, op := Op.makeSlice 23 (Operand.tmp 35) (Operand.tmp 35), type := 23, pos := "l15_completion.go:45", after := #[{ on := 3, ground := Ground.data }, { on := 3, ground := Ground.data }], guard := none }) (by kernel_rfl) rfl (by rfl) (fun w0 hO hX K hK => ?_)
    (have hF := hO; (try simp only [Own, Item.Holds, apartI, CellsAt, Nat.reduceAdd, Nat.zero_add, List.mem_cons, List.not_mem_nil, or_false, forall_eq_or_imp, forall_eq, ne_eq, false_imp_iff, implies_true, and_true] at hF))
    refine wp_make15 _ _ 23 rfl 37 i0 (.agg #[.int .i64 0, .int .i64 0, .int .i64 0]) 3 24 Tryd.underlying23 hi0 hz0 hz1 hz2 N rfl rfl (by omega) (by unfold maxLen; omega) hO ?_
    intro ql wl hO2
    rw [madeP] at hO2
    apply hK _ _ _ (fun _ => True)
    · exact hO2
    · exact trivial
    · exact XStab.true
    · exact fun h => absurd h (by decide)
    clear hO hO2 hF
    clear hK K
    try simp only [Act.put, List.setIfInBounds_toArray, List.set_cons_zero, List.set_cons_succ]
    refine Sim.sP (i := 5) (d := some 37) (h := ?_)
    refine Sim.sP (i := 9) (d := some 41) (h := ?_)
    refine Sim.one' (i := 11) (oi := { dst := none, op := Op.store 52 (Operand.tmp 10) (Operand.tmp 41), type := 0, pos := "l15_completion.go:45", after := #[{ on := 10, ground := Ground.data }, { on := 9, ground := Ground.data }, { on := 0, ground := Ground.phase }, { on := 1, ground := Ground.phase }, { on := 2, ground := Ground.phase }, { on := 3, ground := Ground.phase }, { on := 4, ground := Ground.phase }, { on := 5, ground := Ground.phase }, { on := 6, ground := Ground.phase }, { on := 7, ground := Ground.phase }, { on := 8, ground := Ground.phase }, { on := 9, ground := Ground.phase }, { on := 10, ground := Ground.phase }], guard := none }) (by kernel_rfl) rfl (by rfl) (fun w0 hO hX K hK => ?_)
    have hF := hO; (try simp only [Own, Item.Holds, apartI, CellsAt, Nat.reduceAdd, Nat.zero_add, List.mem_cons, List.not_mem_nil, or_false, forall_eq_or_imp, forall_eq, ne_eq, false_imp_iff, implies_true, and_true] at hF); (skip)
    go_simp
    apply hK _ _ _ (fun _ => True)
    (repeat (first | (with_reducible exact hO) | (with_reducible apply Own.alloc) | (with_reducible apply Own.drew) | ((with_reducible apply Own.set_at); (focus (show _ ≤ _; omega)))))
    · first | exact trivial | exact hX | exact hX.below (below1 _) | exact RdIf.gone | exact hX.keep ((Below.refl _ _).setCell (by first | omega | (dsimp only; omega)) _)
    · exact (by first | exact XStab.true | exact XStab.rd | exact XStab.rdIf)
    · first | exact fun _ _ h => h.2 | exact fun _ _ h => h | exact fun h => absurd h (by decide)
    try simp only [upd, updI, List.map_cons, List.map_nil, eq_self, if_true, if_false, reduceIte, Nat.add_eq_left, Nat.left_eq_add, Nat.reduceEqDiff, List.set_cons_zero, List.set_cons_succ, hF]
    clear hK K hF hO
    try simp only [Act.put, List.setIfInBounds_toArray, List.set_cons_zero, List.set_cons_succ]
    refine Sim.done (by kernel_rfl) (fun w1 hO hX => ?_) _
    (try simp only [World.size_alloc1, World.size_drew, Nat.reduceAdd] at hO); (try simp only [upd, updI, List.map_cons, List.map_nil, eq_self, if_true, if_false, reduceIte, Nat.add_eq_left, Nat.left_eq_add, Nat.reduceEqDiff, List.set_cons_zero, List.set_cons_succ] at hO)
    have hF := hO; (try simp only [Own, Item.Holds, apartI, CellsAt, Nat.reduceAdd, Nat.zero_add, List.mem_cons, List.not_mem_nil, or_false, forall_eq_or_imp, forall_eq, ne_eq, false_imp_iff, implies_true, and_true] at hF)
    rotate_left 1
    (have hF := hO; (try simp only [Own, Item.Holds, apartI, CellsAt, Nat.reduceAdd, Nat.zero_add, List.mem_cons, List.not_mem_nil, or_false, forall_eq_or_imp, forall_eq, ne_eq, false_imp_iff, implies_true, and_true] at hF))
    go_simp
    obtain ⟨qa, hqa⟩ : ∃ q, w0.heap.size = q := ⟨_, rfl⟩
    have hO2 := hO.alloc (t := 52) (vs := [.int .i64 0, .slice none 0 0, .slice none 0 0, .slice none 0 0])
    rw [hqa] at hO2 ⊢
    apply hK _ _ _ (fun _ => True)
    · exact hO2
    · exact trivial
    · exact XStab.true
    · exact fun h => absurd h (by decide)
    clear hO hO2 hF hqa
    clear hK K
    try simp only [Act.put, List.setIfInBounds_toArray, List.set_cons_zero, List.set_cons_succ]
    refine Sim.many (rs := [4, 8]) (by kernel_rfl) (by decide) ?_
    refine AllS.cons (oi := { dst := some 36, op := Op.makeSlice 23 (Operand.tmp 35) (Operand.tmp 35), type := 23, pos := "l15_completion.go:45", after := #[{ on := 3, ground := Ground.data }, { on := 3, ground := Ground.data }], guard := none }) rfl (by rfl) (fun w0 hO hX K hK => ?_) ?_
    rotate_left
    refine AllS.cons (oi := { dst := some 40, op := Op.makeSlice 50 (Operand.tmp 39) (Operand.tmp 39), type := 50, pos := "l15_completion.go:45", after := #[{ on := 7, ground := Ground.data }, { on := 7, ground := Ground.data }], guard := none }) rfl (by rfl) (fun w0 hO hX K hK => ?_) ?_
    rotate_left
    exact AllS.nil
    rotate_right 2
    (have hF := hO; (try simp only [Own, Item.Holds, apartI, CellsAt, Nat.reduceAdd, Nat.zero_add, List.mem_cons, List.not_mem_nil, or_false, forall_eq_or_imp, forall_eq, ne_eq, false_imp_iff, implies_true, and_true] at hF))
    refine wp_make15 _ _ 23 rfl 37 i0 (.agg #[.int .i64 0, .int .i64 0, .int .i64 0]) 3 24 Tryd.underlying23 hi0 hz0 hz1 hz2 N rfl rfl (by omega) (by unfold maxLen; omega) hO ?_
    intro ql wl hO2
    rw [madeP] at hO2
    apply hK _ _ _ (fun _ => True)
    · exact hO2
    · exact trivial
    · exact XStab.true
    · exact fun h => absurd h (by decide)
    clear hO hO2 hF
    clear hK K
    try simp only [Act.put, List.setIfInBounds_toArray, List.set_cons_zero, List.set_cons_succ]
    refine Sim.sP (i := 5) (d := some 37) (h := ?_)
    refine Sim.one' (i := 8) (oi := { dst := some 40, op := Op.makeSlice 50 (Operand.tmp 39) (Operand.tmp 39), type := 50, pos := "l15_completion.go:45", after := #[{ on := 7, ground := Ground.data }, { on := 7, ground := Ground.data }], guard := none }) (by kernel_rfl) rfl (by rfl) (fun w0 hO hX K hK => ?_)
    (have hF := hO; (try simp only [Own, Item.Holds, apartI, CellsAt, Nat.reduceAdd, Nat.zero_add, List.mem_cons, List.not_mem_nil, or_false, forall_eq_or_imp, forall_eq, ne_eq, false_imp_iff, implies_true, and_true] at hF))
    refine wp_make15 _ _ 50 rfl 23 i1 (.slice none 0 0) 1 24 Tryd.underlying50 hi1 hy0 hy1 hy2 N rfl rfl (by omega) (by unfold maxLen; omega) hO ?_
    intro qc wc hO2
    rw [madeSt] at hO2
    apply hK _ _ _ (fun _ => True)
    · exact hO2
    · exact trivial
    · exact XStab.true
    · exact fun h => absurd h (by decide)
    clear hO hO2 hF
    clear hK K
    try simp only [Act.put, List.setIfInBounds_toArray, List.set_cons_zero, List.set_cons_succ]
    refine Sim.sP (i := 9) (d := some 41) (h := ?_)
    refine Sim.one' (i := 11) (oi := { dst := none, op := Op.store 52 (Operand.tmp 10) (Operand.tmp 41), type := 0, pos := "l15_completion.go:45", after := #[{ on := 10, ground := Ground.data }, { on := 9, ground := Ground.data }, { on := 0, ground := Ground.phase }, { on := 1, ground := Ground.phase }, { on := 2, ground := Ground.phase }, { on := 3, ground := Ground.phase }, { on := 4, ground := Ground.phase }, { on := 5, ground := Ground.phase }, { on := 6, ground := Ground.phase }, { on := 7, ground := Ground.phase }, { on := 8, ground := Ground.phase }, { on := 9, ground := Ground.phase }, { on := 10, ground := Ground.phase }], guard := none }) (by kernel_rfl) rfl (by rfl) (fun w0 hO hX K hK => ?_)
    have hF := hO; (try simp only [Own, Item.Holds, apartI, CellsAt, Nat.reduceAdd, Nat.zero_add, List.mem_cons, List.not_mem_nil, or_false, forall_eq_or_imp, forall_eq, ne_eq, false_imp_iff, implies_true, and_true] at hF); (skip)
    go_simp
    apply hK _ _ _ (fun _ => True)
    (repeat (first | (with_reducible exact hO) | (with_reducible apply Own.alloc) | (with_reducible apply Own.drew) | ((with_reducible apply Own.set_at); (focus (show _ ≤ _; omega)))))
    · first | exact trivial | exact hX | exact hX.below (below1 _) | exact RdIf.gone | exact hX.keep ((Below.refl _ _).setCell (by first | omega | (dsimp only; omega)) _)
    · exact (by first | exact XStab.true | exact XStab.rd | exact XStab.rdIf)
    · first | exact fun _ _ h => h.2 | exact fun _ _ h => h | exact fun h => absurd h (by decide)
    try simp only [upd, updI, List.map_cons, List.map_nil, eq_self, if_true, if_false, reduceIte, Nat.add_eq_left, Nat.left_eq_add, Nat.reduceEqDiff, List.set_cons_zero, List.set_cons_succ, hF]
    clear hK K hF hO
    try simp only [Act.put, List.setIfInBounds_toArray, List.set_cons_zero, List.set_cons_succ]
    refine Sim.done (by kernel_rfl) (fun w1 hO hX => ?_) _
    (try simp only [World.size_alloc1, World.size_drew, Nat.reduceAdd] at hO); (try simp only [upd, updI, List.map_cons, List.map_nil, eq_self, if_true, if_false, reduceIte, Nat.add_eq_left, Nat.left_eq_add, Nat.reduceEqDiff, List.set_cons_zero, List.set_cons_succ] at hO)
    have hF := hO; (try simp only [Own, Item.Holds, apartI, CellsAt, Nat.reduceAdd, Nat.zero_add, List.mem_cons, List.not_mem_nil, or_false, forall_eq_or_imp, forall_eq, ne_eq, false_imp_iff, implies_true, and_true] at hF)
    rotate_left 1
    (have hF := hO; (try simp only [Own, Item.Holds, apartI, CellsAt, Nat.reduceAdd, Nat.zero_add, List.mem_cons, List.not_mem_nil, or_false, forall_eq_or_imp, forall_eq, ne_eq, false_imp_iff, implies_true, and_true] at hF))
    refine wp_make15 _ _ 50 rfl 23 i1 (.slice none 0 0) 1 24 Tryd.underlying50 hi1 hy0 hy1 hy2 N rfl rfl (by omega) (by unfold maxLen; omega) hO ?_
    intro qc wc hO2
    rw [madeSt] at hO2
    apply hK _ _ _ (fun _ => True)
    · exact hO2
    · exact trivial
    · exact XStab.true
    · exact fun h => absurd h (by decide)
    clear hO hO2 hF
    clear hK K
    try simp only [Act.put, List.setIfInBounds_toArray, List.set_cons_zero, List.set_cons_succ]
    refine Sim.one' (i := 4) (oi := { dst := some 36, op := Op.makeSlice 23 (Operand.tmp 35) (Operand.tmp 35), type := 23, pos := "l15_completion.go:45", after := #[{ on := 3, ground := Ground.data }, { on := 3, ground := Ground.data }], guard := none }) (by kernel_rfl) rfl (by rfl) (fun w0 hO hX K hK => ?_)
    (have hF := hO; (try simp only [Own, Item.Holds, apartI, CellsAt, Nat.reduceAdd, Nat.zero_add, List.mem_cons, List.not_mem_nil, or_false, forall_eq_or_imp, forall_eq, ne_eq, false_imp_iff, implies_true, and_true] at hF))
    refine wp_make15 _ _ 23 rfl 37 i0 (.agg #[.int .i64 0, .int .i64 0, .int .i64 0]) 3 24 Tryd.underlying23 hi0 hz0 hz1 hz2 N rfl rfl (by omega) (by unfold maxLen; omega) hO ?_
    intro ql wl hO2
    rw [madeP] at hO2
    apply hK _ _ _ (fun _ => True)
    · exact hO2
    · exact trivial
    · exact XStab.true
    · exact fun h => absurd h (by decide)
    clear hO hO2 hF
    clear hK K
    try simp only [Act.put, List.setIfInBounds_toArray, List.set_cons_zero, List.set_cons_succ]
    refine Sim.sP (i := 5) (d := some 37) (h := ?_)
    refine Sim.sP (i := 9) (d := some 41) (h := ?_)
    refine Sim.one' (i := 11) (oi := { dst := none, op := Op.store 52 (Operand.tmp 10) (Operand.tmp 41), type := 0, pos := "l15_completion.go:45", after := #[{ on := 10, ground := Ground.data }, { on := 9, ground := Ground.data }, { on := 0, ground := Ground.phase }, { on := 1, ground := Ground.phase }, { on := 2, ground := Ground.phase }, { on := 3, ground := Ground.phase }, { on := 4, ground := Ground.phase }, { on := 5, ground := Ground.phase }, { on := 6, ground := Ground.phase }, { on := 7, ground := Ground.phase }, { on := 8, ground := Ground.phase }, { on := 9, ground := Ground.phase }, { on := 10, ground := Ground.phase }], guard := none }) (by kernel_rfl) rfl (by rfl) (fun w0 hO hX K hK => ?_)
    have hF := hO; (try simp only [Own, Item.Holds, apartI, CellsAt, Nat.reduceAdd, Nat.zero_add, List.mem_cons, List.not_mem_nil, or_false, forall_eq_or_imp, forall_eq, ne_eq, false_imp_iff, implies_true, and_true] at hF); (skip)
    go_simp
    apply hK _ _ _ (fun _ => True)
    (repeat (first | (with_reducible exact hO) | (with_reducible apply Own.alloc) | (with_reducible apply Own.drew) | ((with_reducible apply Own.set_at); (focus (show _ ≤ _; omega)))))
    · first | exact trivial | exact hX | exact hX.below (below1 _) | exact RdIf.gone | exact hX.keep ((Below.refl _ _).setCell (by first | omega | (dsimp only; omega)) _)
    · exact (by first | exact XStab.true | exact XStab.rd | exact XStab.rdIf)
    · first | exact fun _ _ h => h.2 | exact fun _ _ h => h | exact fun h => absurd h (by decide)
    try simp only [upd, updI, List.map_cons, List.map_nil, eq_self, if_true, if_false, reduceIte, Nat.add_eq_left, Nat.left_eq_add, Nat.reduceEqDiff, List.set_cons_zero, List.set_cons_succ, hF]
    clear hK K hF hO
    try simp only [Act.put, List.setIfInBounds_toArray, List.set_cons_zero, List.set_cons_succ]
    refine Sim.done (by kernel_rfl) (fun w1 hO hX => ?_) _
    (try simp only [World.size_alloc1, World.size_drew, Nat.reduceAdd] at hO); (try simp only [upd, updI, List.map_cons, List.map_nil, eq_self, if_true, if_false, reduceIte, Nat.add_eq_left, Nat.left_eq_add, Nat.reduceEqDiff, List.set_cons_zero, List.set_cons_succ] at hO)
    have hF := hO; (try simp only [Own, Item.Holds, apartI, CellsAt, Nat.reduceAdd, Nat.zero_add, List.mem_cons, List.not_mem_nil, or_false, forall_eq_or_imp, forall_eq, ne_eq, false_imp_iff, implies_true, and_true] at hF)
    rotate_left 1
    (have hF := hO; (try simp only [Own, Item.Holds, apartI, CellsAt, Nat.reduceAdd, Nat.zero_add, List.mem_cons, List.not_mem_nil, or_false, forall_eq_or_imp, forall_eq, ne_eq, false_imp_iff, implies_true, and_true] at hF))
    refine wp_make15 _ _ 50 rfl 23 i1 (.slice none 0 0) 1 24 Tryd.underlying50 hi1 hy0 hy1 hy2 N rfl rfl (by omega) (by unfold maxLen; omega) hO ?_
    intro qc wc hO2
    rw [madeSt] at hO2
    apply hK _ _ _ (fun _ => True)
    · exact hO2
    · exact trivial
    · exact XStab.true
    · exact fun h => absurd h (by decide)
    clear hO hO2 hF
    clear hK K
    try simp only [Act.put, List.setIfInBounds_toArray, List.set_cons_zero, List.set_cons_succ]
    refine Sim.many (rs := [3, 10]) (by kernel_rfl) (by decide) ?_
    refine AllS.cons (oi := { dst := some 35, op := Op.call { callee := Callee.builtin Builtin.len, args := #[Operand.tmp 34], argTypes := #[23] }, type := 3, pos := "l15_completion.go:45", after := #[{ on := 2, ground := Ground.data }], guard := none }) rfl (by rfl) (fun w0 hO hX K hK => ?_) ?_
    rotate_left
    refine AllS.cons (oi := { dst := some 10, op := Op.alloc 52, type := 0, pos := "l15_completion.go:45", after := #[], guard := none }) rfl (by rfl) (fun w0 hO hX K hK => ?_) ?_
    rotate_left
    exact AllS.nil
    rotate_right 2
    have hF := hO; (try simp only [Own, Item.Holds, apartI, CellsAt, Nat.reduceAdd, Nat.zero_add, List.mem_cons, List.not_mem_nil, or_false, forall_eq_or_imp, forall_eq, ne_eq, false_imp_iff, implies_true, and_true] at hF)
    go_simp
    apply hK _ _ _ (fun _ => True)
    (repeat (first | (with_reducible exact hO) | (with_reducible apply Own.alloc) | (with_reducible apply Own.drew) | ((with_reducible apply Own.set_at); (focus (show _ ≤ _; omega)))))
    · first | exact trivial | exact hX | exact hX.below (below1 _) | exact RdIf.gone | exact hX.keep ((Below.refl _ _).setCell (by first | omega | (dsimp only; omega)) _)
    · exact (by first | exact XStab.true | exact XStab.rd | exact XStab.rdIf)
    · first | exact fun _ _ h => h.2 | exact fun _ _ h => h | exact fun h => absurd h (by decide)
    try simp only [upd, updI, List.map_cons, List.map_nil, eq_self, if_true, if_false, reduceIte, Nat.add_eq_left, Nat.left_eq_add, Nat.reduceEqDiff, List.set_cons_zero, List.set_cons_succ, hF]
    clear hK K hF hO
    try simp only [Act.put, List.setIfInBounds_toArray, List.set_cons_zero, List.set_cons_succ]
    refine Sim.many (rs := [4, 10]) (by kernel_rfl) (by decide) ?_
    refine AllS.cons (oi := { dst := some 36, op := Op.makeSlice 23 (Operand.tmp 35) (Operand.tmp 35), type := 23, pos := "l15_completion.go:45", after := #[{ on := 3, ground := Ground.data }, { on := 3, ground := Ground.data }], guard := none }) rfl (by rfl) (fun w0 hO hX K hK => ?_) ?_
    rotate_left
    refine AllS.cons (oi := { dst := some 10, op := Op.alloc 52, type := 0, pos := "l15_completion.go:45", after := #[], guard := none }) rfl (by rfl) (fun w0 hO hX K hK => ?_) ?_
    rotate_left
    exact AllS.nil
    rotate_right 2
    (have hF := hO; (try simp only [Own, Item.Holds, apartI, CellsAt, Nat.reduceAdd, Nat.zero_add, List.mem_cons, List.not_mem_nil, or_false, forall_eq_or_imp, forall_eq, ne_eq, false_imp_iff, implies_true, and_true] at hF))
    refine wp_make15 _ _ 23 rfl 37 i0 (.agg #[.int .i64 0, .int .i64 0, .int .i64 0]) 3 24 Tryd.underlying23 hi0 hz0 hz1 hz2 N rfl rfl (by omega) (by unfold maxLen; omega) hO ?_
    intro ql wl hO2
    rw [madeP] at hO2
    apply hK _ _ _ (fun _ => True)
    · exact hO2
    · exact trivial
    · exact XStab.true
    · exact fun h => absurd h (by decide)
    clear hO hO2 hF
    clear hK K
    try simp only [Act.put, List.setIfInBounds_toArray, List.set_cons_zero, List.set_cons_succ]
    refine Sim.sP (i := 5) (d := some 37) (h := ?_)
    refine Sim.sP (i := 9) (d := some 41) (h := ?_)
    refine Sim.one' (i := 10) (oi := { dst := some 10, op := Op.alloc 52, type := 0, pos := "l15_completion.go:45", after := #[], guard := none }) (by kernel_rfl) rfl (by rfl) (fun w0 hO hX K hK => ?_)
    (have hF := hO; (try simp only [Own, Item.Holds, apartI, CellsAt, Nat.reduceAdd, Nat.zero_add, List.mem_cons, List.not_mem_nil, or_false, forall_eq_or_imp, forall_eq, ne_eq, false_imp_iff, implies_true, and_true] at hF))
    go_simp
    obtain ⟨qa, hqa⟩ : ∃ q, w0.heap.size = q := ⟨_, rfl⟩
    have hO2 := hO.alloc (t := 52) (vs := [.int .i64 0, .slice none 0 0, .slice none 0 0, .slice none 0 0])
    rw [hqa] at hO2 ⊢
    apply hK _ _ _ (fun _ => True)
    · exact hO2
    · exact trivial
    · exact XStab.true
    · exact fun h => absurd h (by decide)
    clear hO hO2 hF hqa
    clear hK K
    try simp only [Act.put, List.setIfInBounds_toArray, List.set_cons_zero, List.set_cons_succ]
    refine Sim.one' (i := 11) (oi := { dst := none, op := Op.store 52 (Operand.tmp 10) (Operand.tmp 41), type := 0, pos := "l15_completion.go:45", after := #[{ on := 10, ground := Ground.data }, { on := 9, ground := Ground.data }, { on := 0, ground := Ground.phase }, { on := 1, ground := Ground.phase }, { on := 2, ground := Ground.phase }, { on := 3, ground := Ground.phase }, { on := 4, ground := Ground.phase }, { on := 5, ground := Ground.phase }, { on := 6, ground := Ground.phase }, { on := 7, ground := Ground.phase }, { on := 8, ground := Ground.phase }, { on := 9, ground := Ground.phase }, { on := 10, ground := Ground.phase }], guard := none }) (by kernel_rfl) rfl (by rfl) (fun w0 hO hX K hK => ?_)
    have hF := hO; (try simp only [Own, Item.Holds, apartI, CellsAt, Nat.reduceAdd, Nat.zero_add, List.mem_cons, List.not_mem_nil, or_false, forall_eq_or_imp, forall_eq, ne_eq, false_imp_iff, implies_true, and_true] at hF); (skip)
    go_simp
    apply hK _ _ _ (fun _ => True)
    (repeat (first | (with_reducible exact hO) | (with_reducible apply Own.alloc) | (with_reducible apply Own.drew) | ((with_reducible apply Own.set_at); (focus (show _ ≤ _; omega)))))
    · first | exact trivial | exact hX | exact hX.below (below1 _) | exact RdIf.gone | exact hX.keep ((Below.refl _ _).setCell (by first | omega | (dsimp only; omega)) _)
    · exact (by first | exact XStab.true | exact XStab.rd | exact XStab.rdIf)
    · first | exact fun _ _ h => h.2 | exact fun _ _ h => h | exact fun h => absurd h (by decide)
    try simp only [upd, updI, List.map_cons, List.map_nil, eq_self, if_true, if_false, reduceIte, Nat.add_eq_left, Nat.left_eq_add, Nat.reduceEqDiff, List.set_cons_zero, List.set_cons_succ, hF]
    clear hK K hF hO
    try simp only [Act.put, List.setIfInBounds_toArray, List.set_cons_zero, List.set_cons_succ]
    refine Sim.done (by kernel_rfl) (fun w1 hO hX => ?_) _
    (try simp only [World.size_alloc1, World.size_drew, Nat.reduceAdd] at hO); (try simp only [upd, updI, List.map_cons, List.map_nil, eq_self, if_true, if_false, reduceIte, Nat.add_eq_left, Nat.left_eq_add, Nat.reduceEqDiff, List.set_cons_zero, List.set_cons_succ] at hO)
    have hF := hO; (try simp only [Own, Item.Holds, apartI, CellsAt, Nat.reduceAdd, Nat.zero_add, List.mem_cons, List.not_mem_nil, or_false, forall_eq_or_imp, forall_eq, ne_eq, false_imp_iff, implies_true, and_true] at hF)
    rotate_left 1
    (have hF := hO; (try simp only [Own, Item.Holds, apartI, CellsAt, Nat.reduceAdd, Nat.zero_add, List.mem_cons, List.not_mem_nil, or_false, forall_eq_or_imp, forall_eq, ne_eq, false_imp_iff, implies_true, and_true] at hF))
    go_simp
    obtain ⟨qa, hqa⟩ : ∃ q, w0.heap.size = q := ⟨_, rfl⟩
    have hO2 := hO.alloc (t := 52) (vs := [.int .i64 0, .slice none 0 0, .slice none 0 0, .slice none 0 0])
    rw [hqa] at hO2 ⊢
    apply hK _ _ _ (fun _ => True)
    · exact hO2
    · exact trivial
    · exact XStab.true
    · exact fun h => absurd h (by decide)
    clear hO hO2 hF hqa
    clear hK K
    try simp only [Act.put, List.setIfInBounds_toArray, List.set_cons_zero, List.set_cons_succ]
    refine Sim.one' (i := 4) (oi := { dst := some 36, op := Op.makeSlice 23 (Operand.tmp 35) (Operand.tmp 35), type := 23, pos := "l15_completion.go:45", after := #[{ on := 3, ground := Ground.data }, { on := 3, ground := Ground.data }], guard := none }) (by kernel_rfl) rfl (by rfl) (fun w0 hO hX K hK => ?_)
    (have hF := hO; (try simp only [Own, Item.Holds, apartI, CellsAt, Nat.reduceAdd, Nat.zero_add, List.mem_cons, List.not_mem_nil, or_false, forall_eq_or_imp, forall_eq, ne_eq, false_imp_iff, implies_true, and_true] at hF))
    refine wp_make15 _ _ 23 rfl 37 i0 (.agg #[.int .i64 0, .int .i64 0, .int .i64 0]) 3 24 Tryd.underlying23 hi0 hz0 hz1 hz2 N rfl rfl (by omega) (by unfold maxLen; omega) hO ?_
    intro ql wl hO2
    rw [madeP] at hO2
    apply hK _ _ _ (fun _ => True)
    · exact hO2
    · exact trivial
    · exact XStab.true
    · exact fun h => absurd h (by decide)
    clear hO hO2 hF
    clear hK K
    try simp only [Act.put, List.setIfInBounds_toArray, List.set_cons_zero, List.set_cons_succ]
    refine Sim.sP (i := 5) (d := some 37) (h := ?_)
    refine Sim.sP (i := 9) (d := some 41) (h := ?_)
    refine Sim.one' (i := 11) (oi := { dst := none, op := Op.store 52 (Operand.tmp 10) (Operand.tmp 41), type := 0, pos := "l15_completion.go:45", after := #[{ on := 10, ground := Ground.data }, { on := 9, ground := Ground.data }, { on := 0, ground := Ground.phase }, { on := 1, ground := Ground.phase }, { on := 2, ground := Ground.phase }, { on := 3, ground := Ground.phase }, { on := 4, ground := Ground.phase }, { on := 5, ground := Ground.phase }, { on := 6, ground := Ground.phase }, { on := 7, ground := Ground.phase }, { on := 8, ground := Ground.phase }, { on := 9, ground := Ground.phase }, { on := 10, ground := Ground.phase }], guard := none }) (by kernel_rfl) rfl (by rfl) (fun w0 hO hX K hK => ?_)
    have hF := hO; (try simp only [Own, Item.Holds, apartI, CellsAt, Nat.reduceAdd, Nat.zero_add, List.mem_cons, List.not_mem_nil, or_false, forall_eq_or_imp, forall_eq, ne_eq, false_imp_iff, implies_true, and_true] at hF); (skip)
    go_simp
    apply hK _ _ _ (fun _ => True)
    (repeat (first | (with_reducible exact hO) | (with_reducible apply Own.alloc) | (with_reducible apply Own.drew) | ((with_reducible apply Own.set_at); (focus (show _ ≤ _; omega)))))
    · first | exact trivial | exact hX | exact hX.below (below1 _) | exact RdIf.gone | exact hX.keep ((Below.refl _ _).setCell (by first | omega | (dsimp only; omega)) _)
    · exact (by first | exact XStab.true | exact XStab.rd | exact XStab.rdIf)
    · first | exact fun _ _ h => h.2 | exact fun _ _ h => h | exact fun h => absurd h (by decide)
    try simp only [upd, updI, List.map_cons, List.map_nil, eq_self, if_true, if_false, reduceIte, Nat.add_eq_left, Nat.left_eq_add, Nat.reduceEqDiff, List.set_cons_zero, List.set_cons_succ, hF]
    clear hK K hF hO
    try simp only [Act.put, List.setIfInBounds_toArray, List.set_cons_zero, List.set_cons_succ]
    refine Sim.done (by kernel_rfl) (fun w1 hO hX => ?_) _
    (try simp only [World.size_alloc1, World.size_drew, Nat.reduceAdd] at hO); (try simp only [upd, updI, List.map_cons, List.map_nil, eq_self, if_true, if_false, reduceIte, Nat.add_eq_left, Nat.left_eq_add, Nat.reduceEqDiff, List.set_cons_zero, List.set_cons_succ] at hO)
    have hF := hO; (try simp only [Own, Item.Holds, apartI, CellsAt, Nat.reduceAdd, Nat.zero_add, List.mem_cons, List.not_mem_nil, or_false, forall_eq_or_imp, forall_eq, ne_eq, false_imp_iff, implies_true, and_true] at hF)
    rotate_left 1
    (have hF := hO; (try simp only [Own, Item.Holds, apartI, CellsAt, Nat.reduceAdd, Nat.zero_add, List.mem_cons, List.not_mem_nil, or_false, forall_eq_or_imp, forall_eq, ne_eq, false_imp_iff, implies_true, and_true] at hF))
    go_simp
    obtain ⟨qa, hqa⟩ : ∃ q, w0.heap.size = q := ⟨_, rfl⟩
    have hO2 := hO.alloc (t := 52) (vs := [.int .i64 0, .slice none 0 0, .slice none 0 0, .slice none 0 0])
    rw [hqa] at hO2 ⊢
    apply hK _ _ _ (fun _ => True)
    · exact hO2
    · exact trivial
    · exact XStab.true
    · exact fun h => absurd h (by decide)
    clear hO hO2 hF hqa
    clear hK K
    try simp only [Act.put, List.setIfInBounds_toArray, List.set_cons_zero, List.set_cons_succ]
    refine Sim.sO (i := 3) (d := some 35) (v := ?_) (hy := ?_) (h := ?_)
    rotate_left
    · first | refine Or.inl ⟨by rfl, fun w hO => ?_⟩ | (refine Or.inr ⟨by rfl, ?_⟩; with_reducible rfl)
      first | done | (have hF := hO; (try simp only [Own, Item.Holds, apartI, CellsAt, Nat.reduceAdd, Nat.zero_add, List.mem_cons, List.not_mem_nil, or_false, forall_eq_or_imp, forall_eq, ne_eq, false_imp_iff, implies_true, and_true] at hF); (skip); refine Out.same ?_; go_simp; all_goals with_reducible rfl)
    refine Sim.one' (i := 4) (oi := { dst := some 36, op := Op.makeSlice 23 (Operand.tmp 35) (Operand.tmp 35), type := 23, pos := "l15_completion.go:45", after := #[{ on := 3, ground := Ground.data }, { on := 3, ground := Ground.data }], guard := none }) (by kernel_rfl) rfl (by rfl) (fun w0 hO hX K hK => ?_)
    (have hF := hO; (try simp only [Own, Item.Holds, apartI, CellsAt, Nat.reduceAdd, Nat.zero_add, List.mem_cons, List.not_mem_nil, or_false, forall_eq_or_imp, forall_eq, ne_eq, false_imp_iff, implies_true, and_true] at hF))
    refine wp_make15 _ _ 23 rfl 37 i0 (.agg #[.int .i64 0, .int .i64 0, .int .i64 0]) 3 24 Tryd.underlying23 hi0 hz0 hz1 hz2 N rfl rfl (by omega) (by unfold maxLen; omega) hO ?_
    intro ql wl hO2
    rw [madeP] at hO2
    apply hK _ _ _ (fun _ => True)
    · exact hO2
    · exact trivial
    · exact XStab.true
    · exact fun h => absurd h (by decide)
    clear hO hO2 hF
    clear hK K
    try simp only [Act.put, List.setIfInBounds_toArray, List.set_cons_zero, List.set_cons_succ]
    refine Sim.sP (i := 5) (d := some 37) (h := ?_)
    refine Sim.sP (i := 9) (d := some 41) (h := ?_)
    refine Sim.one' (i := 11) (oi := { dst := none, op := Op.store 52 (Operand.tmp 10) (Operand.tmp 41), type := 0, pos := "l15_completion.go:45", after := #[{ on := 10, ground := Ground.data }, { on := 9, ground := Ground.data }, { on := 0, ground := Ground.phase }, { on := 1, ground := Ground.phase }, { on := 2, ground := Ground.phase }, { on := 3, ground := Ground.phase }, { on := 4, ground := Ground.phase }, { on := 5, ground := Ground.phase }, { on := 6, ground := Ground.phase }, { on := 7, ground := Ground.phase }, { on := 8, ground := Ground.phase }, { on := 9, ground := Ground.phase }, { on := 10, ground := Ground.phase }], guard := none }) (by kernel_rfl) rfl (by rfl) (fun w0 hO hX K hK => ?_)
    have hF := hO; (try simp only [Own, Item.Holds, apartI, CellsAt, Nat.reduceAdd, Nat.zero_add, List.mem_cons, List.not_mem_nil, or_false, forall_eq_or_imp, forall_eq, ne_eq, false_imp_iff, implies_true, and_true] at hF); (skip)
    go_simp
    apply hK _ _ _ (fun _ => True)
    (repeat (first | (with_reducible exact hO) | (with_reducible apply Own.alloc) | (with_reducible apply Own.drew) | ((with_reducible apply Own.set_at); (focus (show _ ≤ _; omega)))))
    · first | exact trivial | exact hX | exact hX.below (below1 _) | exact RdIf.gone | exact hX.keep ((Below.refl _ _).setCell (by first | omega | (dsimp only; omega)) _)
    · exact (by first | exact XStab.true | exact XStab.rd | exact XStab.rdIf)
    · first | exact fun _ _ h => h.2 | exact fun _ _ h => h | exact fun h => absurd h (by decide)
    try simp only [upd, updI, List.map_cons, List.map_nil, eq_self, if_true, if_false, reduceIte, Nat.add_eq_left, Nat.left_eq_add, Nat.reduceEqDiff, List.set_cons_zero, List.set_cons_succ, hF]
    clear hK K hF hO
    try simp only [Act.put, List.setIfInBounds_toArray, List.set_cons_zero, List.set_cons_succ]
    refine Sim.done (by kernel_rfl) (fun w1 hO hX => ?_) _
    (try simp only [World.size_alloc1, World.size_drew, Nat.reduceAdd] at hO); (try simp only [upd, updI, List.map_cons, List.map_nil, eq_self, if_true, if_false, reduceIte, Nat.add_eq_left, Nat.left_eq_add, Nat.reduceEqDiff, List.set_cons_zero, List.set_cons_succ] at hO)
    have hF := hO; (try simp only [Own, Item.Holds, apartI, CellsAt, Nat.reduceAdd, Nat.zero_add, List.mem_cons, List.not_mem_nil, or_false, forall_eq_or_imp, forall_eq, ne_eq, false_imp_iff, implies_true, and_true] at hF)
    rotate_left 1
    (have hF := hO; (try simp only [Own, Item.Holds, apartI, CellsAt, Nat.reduceAdd, Nat.zero_add, List.mem_cons, List.not_mem_nil, or_false, forall_eq_or_imp, forall_eq, ne_eq, false_imp_iff, implies_true, and_true] at hF))
    go_simp
    obtain ⟨qa, hqa⟩ : ∃ q, w0.heap.size = q := ⟨_, rfl⟩
    have hO2 := hO.alloc (t := 52) (vs := [.int .i64 0, .slice none 0 0, .slice none 0 0, .slice none 0 0])
    rw [hqa] at hO2 ⊢
    apply hK _ _ _ (fun _ => True)
    · exact hO2
    · exact trivial
    · exact XStab.true
    · exact fun h => absurd h (by decide)
    clear hO hO2 hF hqa
    clear hK K
    try simp only [Act.put, List.setIfInBounds_toArray, List.set_cons_zero, List.set_cons_succ]
    refine Sim.many (rs := [3, 8]) (by kernel_rfl) (by decide) ?_
    refine AllS.cons (oi := { dst := some 35, op := Op.call { callee := Callee.builtin Builtin.len, args := #[Operand.tmp 34], argTypes := #[23] }, type := 3, pos := "l15_completion.go:45", after := #[{ on := 2, ground := Ground.data }], guard := none }) rfl (by rfl) (fun w0 hO hX K hK => ?_) ?_
    rotate_left
    refine AllS.cons (oi := { dst := some 40, op := Op.makeSlice 50 (Operand.tmp 39) (Operand.tmp 39), type := 50, pos := "l15_completion.go:45", after := #[{ on := 7, ground := Ground.data }, { on := 7, ground := Ground.data }], guard := none }) rfl (by rfl) (fun w0 hO hX K hK => ?_) ?_
    rotate_left
    exact AllS.nil
    rotate_right 2
    have hF := hO; (try simp only [Own, Item.Holds, apartI, CellsAt, Nat.reduceAdd, Nat.zero_add, List.mem_cons, List.not_mem_nil, or_false, forall_eq_or_imp, forall_eq, ne_eq, false_imp_iff, implies_true, and_true] at hF)
    go_simp
    apply hK _ _ _ (fun _ => True)
    (repeat (first | (with_reducible exact hO) | (with_reducible apply Own.alloc) | (with_reducible apply Own.drew) | ((with_reducible apply Own.set_at); (focus (show _ ≤ _; omega)))))
    · first | exact trivial | exact hX | exact hX.below (below1 _) | exact RdIf.gone | exact hX.keep ((Below.refl _ _).setCell (by first | omega | (dsimp only; omega)) _)
    · exact (by first | exact XStab.true | exact XStab.rd | exact XStab.rdIf)
    · first | exact fun _ _ h => h.2 | exact fun _ _ h => h | exact fun h => absurd h (by decide)
    try simp only [upd, updI, List.map_cons, List.map_nil, eq_self, if_true, if_false, reduceIte, Nat.add_eq_left, Nat.left_eq_add, Nat.reduceEqDiff, List.set_cons_zero, List.set_cons_succ, hF]
    clear hK K hF hO
    try simp only [Act.put, List.setIfInBounds_toArray, List.set_cons_zero, List.set_cons_succ]
    refine Sim.many (rs := [4, 8]) (by kernel_rfl) (by decide) ?_
    refine AllS.cons (oi := { dst := some 36, op := Op.makeSlice 23 (Operand.tmp 35) (Operand.tmp 35), type := 23, pos := "l15_completion.go:45", after := #[{ on := 3, ground := Ground.data }, { on := 3, ground := Ground.data }], guard := none }) rfl (by rfl) (fun w0 hO hX K hK => ?_) ?_
    rotate_left
    refine AllS.cons (oi := { dst := some 40, op := Op.makeSlice 50 (Operand.tmp 39) (Operand.tmp 39), type := 50, pos := "l15_completion.go:45", after := #[{ on := 7, ground := Ground.data }, { on := 7, ground := Ground.data }], guard := none }) rfl (by rfl) (fun w0 hO hX K hK => ?_) ?_
    rotate_left
    exact AllS.nil
    rotate_right 2
    (have hF := hO; (try simp only [Own, Item.Holds, apartI, CellsAt, Nat.reduceAdd, Nat.zero_add, List.mem_cons, List.not_mem_nil, or_false, forall_eq_or_imp, forall_eq, ne_eq, false_imp_iff, implies_true, and_true] at hF))
    refine wp_make15 _ _ 23 rfl 37 i0 (.agg #[.int .i64 0, .int .i64 0, .int .i64 0]) 3 24 Tryd.underlying23 hi0 hz0 hz1 hz2 N rfl rfl (by omega) (by unfold maxLen; omega) hO ?_
    intro ql wl hO2
    rw [madeP] at hO2
    apply hK _ _ _ (fun _ => True)
    · exact hO2
    · exact trivial
    · exact XStab.true
    · exact fun h => absurd h (by decide)
    clear hO hO2 hF
    clear hK K
    try simp only [Act.put, List.setIfInBounds_toArray, List.set_cons_zero, List.set_cons_succ]
    refine Sim.sP (i := 5) (d := some 37) (h := ?_)
    refine Sim.one' (i := 8) (oi := { dst := some 40, op := Op.makeSlice 50 (Operand.tmp 39) (Operand.tmp 39), type := 50, pos := "l15_completion.go:45", after := #[{ on := 7, ground := Ground.data }, { on := 7, ground := Ground.data }], guard := none }) (by kernel_rfl) rfl (by rfl) (fun w0 hO hX K hK => ?_)
    (have hF := hO; (try simp only [Own, Item.Holds, apartI, CellsAt, Nat.reduceAdd, Nat.zero_add, List.mem_cons, List.not_mem_nil, or_false, forall_eq_or_imp, forall_eq, ne_eq, false_imp_iff, implies_true, and_true] at hF))
    refine wp_make15 _ _ 50 rfl 23 i1 (.slice none 0 0) 1 24 Tryd.underlying50 hi1 hy0 hy1 hy2 N rfl rfl (by omega) (by unfold maxLen; omega) hO ?_
    intro qc wc hO2
    rw [madeSt] at hO2
    apply hK _ _ _ (fun _ => True)
    · exact hO2
    · exact trivial
    · exact XStab.true
    · exact fun h => absurd h (by decide)
    clear hO hO2 hF
    clear hK K
    try simp only [Act.put, List.setIfInBounds_toArray, List.set_cons_zero, List.set_cons_succ]
    refine Sim.sP (i := 9) (d := some 41) (h := ?_)
    refine Sim.one' (i := 11) (oi := { dst := none, op := Op.store 52 (Operand.tmp 10) (Operand.tmp 41), type := 0, pos := "l15_completion.go:45", after := #[{ on := 10, ground := Ground.data }, { on := 9, ground := Ground.data }, { on := 0, ground := Ground.phase }, { on := 1, ground := Ground.phase }, { on := 2, ground := Ground.phase }, { on := 3, ground := Ground.phase }, { on := 4, ground := Ground.phase }, { on := 5, ground := Ground.phase }, { on := 6, ground := Ground.phase }, { on := 7, ground := Ground.phase }, { on := 8, ground := Ground.phase }, { on := 9, ground := Ground.phase }, { on := 10, ground := Ground.phase }], guard := none }) (by kernel_rfl) rfl (by rfl) (fun w0 hO hX K hK => ?_)
    have hF := hO; (try simp only [Own, Item.Holds, apartI, CellsAt, Nat.reduceAdd, Nat.zero_add, List.mem_cons, List.not_mem_nil, or_false, forall_eq_or_imp, forall_eq, ne_eq, false_imp_iff, implies_true, and_true] at hF); (skip)
    go_simp
    apply hK _ _ _ (fun _ => True)
    (repeat (first | (with_reducible exact hO) | (with_reducible apply Own.alloc) | (with_reducible apply Own.drew) | ((with_reducible apply Own.set_at); (focus (show _ ≤ _; omega)))))
    · first | exact trivial | exact hX | exact hX.below (below1 _) | exact RdIf.gone | exact hX.keep ((Below.refl _ _).setCell (by first | omega | (dsimp only; omega)) _)
    · exact (by first | exact XStab.true | exact XStab.rd | exact XStab.rdIf)
    · first | exact fun _ _ h => h.2 | exact fun _ _ h => h | exact fun h => absurd h (by decide)
    try simp only [upd, updI, List.map_cons, List.map_nil, eq_self, if_true, if_false, reduceIte, Nat.add_eq_left, Nat.left_eq_add, Nat.reduceEqDiff, List.set_cons_zero, List.set_cons_succ, hF]
    clear hK K hF hO
    try simp only [Act.put, List.setIfInBounds_toArray, List.set_cons_zero, List.set_cons_succ]
    refine Sim.done (by kernel_rfl) (fun w1 hO hX => ?_) _
    (try simp only [World.size_alloc1, World.size_drew, Nat.reduceAdd] at hO); (try simp only [upd, updI, List.map_cons, List.map_nil, eq_self, if_true, if_false, reduceIte, Nat.add_eq_left, Nat.left_eq_add, Nat.reduceEqDiff, List.set_cons_zero, List.set_cons_succ] at hO)
    have hF := hO; (try simp only [Own, Item.Holds, apartI, CellsAt, Nat.reduceAdd, Nat.zero_add, List.mem_cons, List.not_mem_nil, or_false, forall_eq_or_imp, forall_eq, ne_eq, false_imp_iff, implies_true, and_true] at hF)
    rotate_left 1
    (have hF := hO; (try simp only [Own, Item.Holds, apartI, CellsAt, Nat.reduceAdd, Nat.zero_add, List.mem_cons, List.not_mem_nil, or_false, forall_eq_or_imp, forall_eq, ne_eq, false_imp_iff, implies_true, and_true] at hF))
    refine wp_make15 _ _ 50 rfl 23 i1 (.slice none 0 0) 1 24 Tryd.underlying50 hi1 hy0 hy1 hy2 N rfl rfl (by omega) (by unfold maxLen; omega) hO ?_
    intro qc wc hO2
    rw [madeSt] at hO2
    apply hK _ _ _ (fun _ => True)
    · exact hO2
    · exact trivial
    · exact XStab.true
    · exact fun h => absurd h (by decide)
    clear hO hO2 hF
    clear hK K
    try simp only [Act.put, List.setIfInBounds_toArray, List.set_cons_zero, List.set_cons_succ]
    refine Sim.one' (i := 4) (oi := { dst := some 36, op := Op.makeSlice 23 (Operand.tmp 35) (Operand.tmp 35), type := 23, pos := "l15_completion.go:45", after := #[{ on := 3, ground := Ground.data }, { on := 3, ground := Ground.data }], guard := none }) (by kernel_rfl) rfl (by rfl) (fun w0 hO hX K hK => ?_)
    (have hF := hO; (try simp only [Own, Item.Holds, apartI, CellsAt, Nat.reduceAdd, Nat.zero_add, List.mem_cons, List.not_mem_nil, or_false, forall_eq_or_imp, forall_eq, ne_eq, false_imp_iff, implies_true, and_true] at hF))
    refine wp_make15 _ _ 23 rfl 37 i0 (.agg #[.int .i64 0, .int .i64 0, .int .i64 0]) 3 24 Tryd.underlying23 hi0 hz0 hz1 hz2 N rfl rfl (by omega) (by unfold maxLen; omega) hO ?_
    intro ql wl hO2
    rw [madeP] at hO2
    apply hK _ _ _ (fun _ => True)
    · exact hO2
    · exact trivial
    · exact XStab.true
    · exact fun h => absurd h (by decide)
    clear hO hO2 hF
    clear hK K
    try simp only [Act.put, List.setIfInBounds_toArray, List.set_cons_zero, List.set_cons_succ]
    refine Sim.sP (i := 5) (d := some 37) (h := ?_)
    refine Sim.sP (i := 9) (d := some 41) (h := ?_)
    refine Sim.one' (i := 11) (oi := { dst := none, op := Op.store 52 (Operand.tmp 10) (Operand.tmp 41), type := 0, pos := "l15_completion.go:45", after := #[{ on := 10, ground := Ground.data }, { on := 9, ground := Ground.data }, { on := 0, ground := Ground.phase }, { on := 1, ground := Ground.phase }, { on := 2, ground := Ground.phase }, { on := 3, ground := Ground.phase }, { on := 4, ground := Ground.phase }, { on := 5, ground := Ground.phase }, { on := 6, ground := Ground.phase }, { on := 7, ground := Ground.phase }, { on := 8, ground := Ground.phase }, { on := 9, ground := Ground.phase }, { on := 10, ground := Ground.phase }], guard := none }) (by kernel_rfl) rfl (by rfl) (fun w0 hO hX K hK => ?_)
    have hF := hO; (try simp only [Own, Item.Holds, apartI, CellsAt, Nat.reduceAdd, Nat.zero_add, List.mem_cons, List.not_mem_nil, or_false, forall_eq_or_imp, forall_eq, ne_eq, false_imp_iff, implies_true, and_true] at hF); (skip)
    go_simp
    apply hK _ _ _ (fun _ => True)
    (repeat (first | (with_reducible exact hO) | (with_reducible apply Own.alloc) | (with_reducible apply Own.drew) | ((with_reducible apply Own.set_at); (focus (show _ ≤ _; omega)))))
    · first | exact trivial | exact hX | exact hX.below (below1 _) | exact RdIf.gone | exact hX.keep ((Below.refl _ _).setCell (by first | omega | (dsimp only; omega)) _)
    · exact (by first | exact XStab.true | exact XStab.rd | exact XStab.rdIf)
    · first | exact fun _ _ h => h.2 | exact fun _ _ h => h | exact fun h => absurd h (by decide)
    try simp only [upd, updI, List.map_cons, List.map_nil, eq_self, if_true, if_false, reduceIte, Nat.add_eq_left, Nat.left_eq_add, Nat.reduceEqDiff, List.set_cons_zero, List.set_cons_succ, hF]
    clear hK K hF hO
    try simp only [Act.put, List.setIfInBounds_toArray, List.set_cons_zero, List.set_cons_succ]
    refine Sim.done (by kernel_rfl) (fun w1 hO hX => ?_) _
    (try simp only [World.size_alloc1, World.size_drew, Nat.reduceAdd] at hO); (try simp only [upd, updI, List.map_cons, List.map_nil, eq_self, if_true, if_false, reduceIte, Nat.add_eq_left, Nat.left_eq_add, Nat.reduceEqDiff, List.set_cons_zero, List.set_cons_succ] at hO)
    have hF := hO; (try simp only [Own, Item.Holds, apartI, CellsAt, Nat.reduceAdd, Nat.zero_add, List.mem_cons, List.not_mem_nil, or_false, forall_eq_or_imp, forall_eq, ne_eq, false_imp_iff, implies_true, and_true] at hF)
    rotate_left 1
    (have hF := hO; (try simp only [Own, Item.Holds, apartI, CellsAt, Nat.reduceAdd, Nat.zero_add, List.mem_cons, List.not_mem_nil, or_false, forall_eq_or_imp, forall_eq, ne_eq, false_imp_iff, implies_true, and_true] at hF))
    refine wp_make15 _ _ 50 rfl 23 i1 (.slice none 0 0) 1 24 Tryd.underlying50 hi1 hy0 hy1 hy2 N rfl rfl (by omega) (by unfold maxLen; omega) hO ?_
    intro qc wc hO2
    rw [madeSt] at hO2
    apply hK _ _ _ (fun _ => True)
    · exact hO2
    · exact trivial
    · exact XStab.true
    · exact fun h => absurd h (by decide)
    clear hO hO2 hF
    clear hK K
    try simp only [Act.put, List.setIfInBounds_toArray, List.set_cons_zero, List.set_cons_succ]
    refine Sim.sO (i := 3) (d := some 35) (v := ?_) (hy := ?_) (h := ?_)
    rotate_left
    · first | refine Or.inl ⟨by rfl, fun w hO => ?_⟩ | (refine Or.inr ⟨by rfl, ?_⟩; with_reducible rfl)
      first | done | (have hF := hO; (try simp only [Own, Item.Holds, apartI, CellsAt, Nat.reduceAdd, Nat.zero_add, List.mem_cons, List.not_mem_nil, or_false, forall_eq_or_imp, forall_eq, ne_eq, false_imp_iff, implies_true, and_true] at hF); (skip); refine Out.same ?_; go_simp; all_goals with_reducible rfl)
    refine Sim.one' (i := 4) (oi := { dst := some 36, op := Op.makeSlice 23 (Operand.tmp 35) (Operand.tmp 35), type := 23, pos := "l15_completion.go:45", after := #[{ on := 3, ground := Ground.data }, { on := 3, ground := Ground.data }], guard := none }) (by kernel_rfl) rfl (by rfl) (fun w0 hO hX K hK => ?_)
    (have hF := hO; (try simp only [Own, Item.Holds, apartI, CellsAt, Nat.reduceAdd, Nat.zero_add, List.mem_cons, List.not_mem_nil, or_false, forall_eq_or_imp, forall_eq, ne_eq, false_imp_iff, implies_true, and_true] at hF))
    refine wp_make15 _ _ 23 rfl 37 i0 (.agg #[.int .i64 0, .int .i64 0, .int .i64 0]) 3 24 Tryd.underlying23 hi0 hz0 hz1 hz2 N rfl rfl (by omega) (by unfold maxLen; omega) hO ?_
    intro ql wl hO2
    rw [madeP] at hO2
    apply hK _ _ _ (fun _ => True)
    · exact hO2
    · exact trivial
    · exact XStab.true
    · exact fun h => absurd h (by decide)
    clear hO hO2 hF
    clear hK K
    try simp only [Act.put, List.setIfInBounds_toArray, List.set_cons_zero, List.set_cons_succ]
    refine Sim.sP (i := 5) (d := some 37) (h := ?_)
    refine Sim.sP (i := 9) (d := some 41) (h := ?_)
    refine Sim.one' (i := 11) (oi := { dst := none, op := Op.store 52 (Operand.tmp 10) (Operand.tmp 41), type := 0, pos := "l15_completion.go:45", after := #[{ on := 10, ground := Ground.data }, { on := 9, ground := Ground.data }, { on := 0, ground := Ground.phase }, { on := 1, ground := Ground.phase }, { on := 2, ground := Ground.phase }, { on := 3, ground := Ground.phase }, { on := 4, ground := Ground.phase }, { on := 5, ground := Ground.phase }, { on := 6, ground := Ground.phase }, { on := 7, ground := Ground.phase }, { on := 8, ground := Ground.phase }, { on := 9, ground := Ground.phase }, { on := 10, ground := Ground.phase }], guard := none }) (by kernel_rfl) rfl (by rfl) (fun w0 hO hX K hK => ?_)
    have hF := hO; (try simp only [Own, Item.Holds, apartI, CellsAt, Nat.reduceAdd, Nat.zero_add, List.mem_cons, List.not_mem_nil, or_false, forall_eq_or_imp, forall_eq, ne_eq, false_imp_iff, implies_true, and_true] at hF); (skip)
    go_simp
    apply hK _ _ _ (fun _ => True)
    (repeat (first | (with_reducible exact hO) | (with_reducible apply Own.alloc) | (with_reducible apply Own.drew) | ((with_reducible apply Own.set_at); (focus (show _ ≤ _; omega)))))
    · first | exact trivial | exact hX | exact hX.below (below1 _) | exact RdIf.gone | exact hX.keep ((Below.refl _ _).setCell (by first | omega | (dsimp only; omega)) _)
    · exact (by first | exact XStab.true | exact XStab.rd | exact XStab.rdIf)
    · first | exact fun _ _ h => h.2 | exact fun _ _ h => h | exact fun h => absurd h (by decide)
    try simp only [upd, updI, List.map_cons, List.map_nil, eq_self, if_true, if_false, reduceIte, Nat.add_eq_left, Nat.left_eq_add, Nat.reduceEqDiff, List.set_cons_zero, List.set_cons_succ, hF]
    clear hK K hF hO
    try simp only [Act.put, List.setIfInBounds_toArray, List.set_cons_zero, List.set_cons_succ]
    refine Sim.done (by kernel_rfl) (fun w1 hO hX => ?_) _
    (try simp only [World.size_alloc1, World.size_drew, Nat.reduceAdd] at hO); (try simp only [upd, updI, List.map_cons, List.map_nil, eq_self, if_true, if_false, reduceIte, Nat.add_eq_left, Nat.left_eq_add, Nat.reduceEqDiff, List.set_cons_zero, List.set_cons_succ] at hO)
    have hF := hO; (try simp only [Own, Item.Holds, apartI, CellsAt, Nat.reduceAdd, Nat.zero_add, List.mem_cons, List.not_mem_nil, or_false, forall_eq_or_imp, forall_eq, ne_eq, false_imp_iff, implies_true, and_true] at hF)
    rotate_left 1
    (have hF := hO; (try simp only [Own, Item.Holds, apartI, CellsAt, Nat.reduceAdd, Nat.zero_add, List.mem_cons, List.not_mem_nil, or_false, forall_eq_or_imp, forall_eq, ne_eq, false_imp_iff, implies_true, and_true] at hF))
    go_simp
    obtain ⟨qa, hqa⟩ : ∃ q, w0.heap.size = q := ⟨_, rfl⟩
    have hO2 := hO.alloc (t := 52) (vs := [.int .i64 0, .slice none 0 0, .slice none 0 0, .slice none 0 0])
    rw [hqa] at hO2 ⊢
    apply hK _ _ _ (fun _ => True)
    · exact hO2
    · exact trivial
    · exact XStab.true
    · exact fun h => absurd h (by decide)
    clear hO hO2 hF hqa
    clear hK K
    try simp only [Act.put, List.setIfInBounds_toArray, List.set_cons_zero, List.set_cons_succ]
    refine Sim.many (rs := [3, 7]) (by kernel_rfl) (by decide) ?_
    refine AllS.cons (oi := { dst := some 35, op := Op.call { callee := Callee.builtin Builtin.len, args := #[Operand.tmp 34], argTypes := #[23] }, type := 3, pos := "l15_completion.go:45", after := #[{ on := 2, ground := Ground.data }], guard := none }) rfl (by rfl) (fun w0 hO hX K hK => ?_) ?_
    rotate_left
    refine AllS.cons (oi := { dst := some 39, op := Op.call { callee := Callee.builtin Builtin.len, args := #[Operand.tmp 38], argTypes := #[23] }, type := 3, pos := "l15_completion.go:45", after := #[{ on := 6, ground := Ground.data }], guard := none }) rfl (by rfl) (fun w0 hO hX K hK => ?_) ?_
    rotate_left
    exact AllS.nil
    rotate_right 2
    have hF := hO; (try simp only [Own, Item.Holds, apartI, CellsAt, Nat.reduceAdd, Nat.zero_add, List.mem_cons, List.not_mem_nil, or_false, forall_eq_or_imp, forall_eq, ne_eq, false_imp_iff, implies_true, and_true] at hF)
    go_simp
    apply hK _ _ _ (fun _ => True)
    (repeat (first | (with_reducible exact hO) | (with_reducible apply Own.alloc) | (with_reducible apply Own.drew) | ((with_reducible apply Own.set_at); (focus (show _ ≤ _; omega)))))
    · first | exact trivial | exact hX | exact hX.below (below1 _) | exact RdIf.gone | exact hX.keep ((Below.refl _ _).setCell (by first | omega | (dsimp only; omega)) _)
    · exact (by first | exact XStab.true | exact XStab.rd | exact XStab.rdIf)
    · first | exact fun _ _ h => h.2 | exact fun _ _ h => h | exact fun h => absurd h (by decide)
    try simp only [upd, updI, List.map_cons, List.map_nil, eq_self, if_true, if_false, reduceIte, Nat.add_eq_left, Nat.left_eq_add, Nat.reduceEqDiff, List.set_cons_zero, List.set_cons_succ, hF]
    clear hK K hF hO
    try simp only [Act.put, List.setIfInBounds_toArray, List.set_cons_zero, List.set_cons_succ]
    refine Sim.many (rs := [4, 7]) (by kernel_rfl) (by decide) ?_
    refine AllS.cons (oi := { dst := some 36, op := Op.makeSlice 23 (Operand.tmp 35) (Operand.tmp 35), type := 23, pos := "l15_completion.go:45", after := #[{ on := 3, ground := Ground.data }, { on := 3, ground := Ground.data }], guard := none }) rfl (by rfl) (fun w0 hO hX K hK => ?_) ?_
    rotate_left
    refine AllS.cons (oi := { dst := some 39, op := Op.call { callee := Callee.builtin Builtin.len, args := #[Operand.tmp 38], argTypes := #[23] }, type := 3, pos := "l15_completion.go:45", after := #[{ on := 6, ground := Ground.data }], guard := none }) rfl (by rfl) (fun w0 hO hX K hK => ?_) ?_
    rotate_left
    exact AllS.nil
    rotate_right 2
    (have hF := hO; (try simp only [Own, Item.Holds, apartI, CellsAt, Nat.reduceAdd, Nat.zero_add, List.mem_cons, List.not_mem_nil, or_false, forall_eq_or_imp, forall_eq, ne_eq, false_imp_iff, implies_true, and_true] at hF))
    refine wp_make15 _ _ 23 rfl 37 i0 (.agg #[.int .i64 0, .int .i64 0, .int .i64 0]) 3 24 Tryd.underlying23 hi0 hz0 hz1 hz2 N rfl rfl (by omega) (by unfold maxLen; omega) hO ?_
    intro ql wl hO2
    rw [madeP] at hO2
    apply hK _ _ _ (fun _ => True)
    · exact hO2
    · exact trivial
    · exact XStab.true
    · exact fun h => absurd h (by decide)
    clear hO hO2 hF
    clear hK K
    try simp only [Act.put, List.setIfInBounds_toArray, List.set_cons_zero, List.set_cons_succ]
    refine Sim.sP (i := 5) (d := some 37) (h := ?_)
    refine Sim.sO (i := 7) (d := some 39) (v := ?_) (hy := ?_) (h := ?_)
    rotate_left
    · first | refine Or.inl ⟨by rfl, fun w hO => ?_⟩ | (refine Or.inr ⟨by rfl, ?_⟩; with_reducible rfl)
      first | done | (have hF := hO; (try simp only [Own, Item.Holds, apartI, CellsAt, Nat.reduceAdd, Nat.zero_add, List.mem_cons, List.not_mem_nil, or_false, forall_eq_or_imp, forall_eq, ne_eq, false_imp_iff, implies_true, and_true] at hF); (skip); refine Out.same ?_; go_simp; all_goals with_reducible rfl)
    refine Sim.one' (i := 8) (oi := { dst := some 40, op := Op.makeSlice 50 (Operand.tmp 39) (Operand.tmp 39), type := 50, pos := "l15_completion.go:45", after := #[{ on := 7, ground := Ground.data }, { on := 7, ground := Ground.data }], guard := none }) (by kernel_rfl) rfl (by rfl) (fun w0 hO hX K hK => ?_)
    (have hF := hO; (try simp only [Own, Item.Holds, apartI, CellsAt, Nat.reduceAdd, Nat.zero_add, List.mem_cons, List.not_mem_nil, or_false, forall_eq_or_imp, forall_eq, ne_eq, false_imp_iff, implies_true, and_true] at hF))
    refine wp_make15 _ _ 50 rfl 23 i1 (.slice none 0 0) 1 24 Tryd.underlying50 hi1 hy0 hy1 hy2 N rfl rfl (by omega) (by unfold maxLen; omega) hO ?_
    intro qc wc hO2
    rw [madeSt] at hO2
    apply hK _ _ _ (fun _ => True)
    · exact hO2
    · exact trivial
    · exact XStab.true
    · exact fun h => absurd h (by decide)
    clear hO hO2 hF
    clear hK K
    try simp only [Act.put, List.setIfInBounds_toArray, List.set_cons_zero, List.set_cons_succ]
    refine Sim.sP (i := 9) (d := some 41) (h := ?_)
    refine Sim.one' (i := 11) (oi := { dst := none, op := Op.store 52 (Operand.tmp 10) (Operand.tmp 41), type := 0, pos := "l15_completion.go:45", after := #[{ on := 10, ground := Ground.data }, { on := 9, ground := Ground.data }, { on := 0, ground := Ground.phase }, { on := 1, ground := Ground.phase }, { on := 2, ground := Ground.phase }, { on := 3, ground := Ground.phase }, { on := 4, ground := Ground.phase }, { on := 5, ground := Ground.phase }, { on := 6, ground := Ground.phase }, { on := 7, ground := Ground.phase }, { on := 8, ground := Ground.phase }, { on := 9, ground := Ground.phase }, { on := 10, ground := Ground.phase }], guard := none }) (by kernel_rfl) rfl (by rfl) (fun w0 hO hX K hK => ?_)
    have hF := hO; (try simp only [Own, Item.Holds, apartI, CellsAt, Nat.reduceAdd, Nat.zero_add, List.mem_cons, List.not_mem_nil, or_false, forall_eq_or_imp, forall_eq, ne_eq, false_imp_iff, implies_true, and_true] at hF); (skip)
    go_simp
    apply hK _ _ _ (fun _ => True)
    (repeat (first | (with_reducible exact hO) | (with_reducible apply Own.alloc) | (with_reducible apply Own.drew) | ((with_reducible apply Own.set_at); (focus (show _ ≤ _; omega)))))
    · first | exact trivial | exact hX | exact hX.below (below1 _) | exact RdIf.gone | exact hX.keep ((Below.refl _ _).setCell (by first | omega | (dsimp only; omega)) _)
    · exact (by first | exact XStab.true | exact XStab.rd | exact XStab.rdIf)
    · first | exact fun _ _ h => h.2 | exact fun _ _ h => h | exact fun h => absurd h (by decide)
    try simp only [upd, updI, List.map_cons, List.map_nil, eq_self, if_true, if_false, reduceIte, Nat.add_eq_left, Nat.left_eq_add, Nat.reduceEqDiff, List.set_cons_zero, List.set_cons_succ, hF]
    clear hK K hF hO
    try simp only [Act.put, List.setIfInBounds_toArray, List.set_cons_zero, List.set_cons_succ]
    refine Sim.done (by kernel_rfl) (fun w1 hO hX => ?_) _
    (try simp only [World.size_alloc1, World.size_drew, Nat.reduceAdd] at hO); (try simp only [upd, updI, List.map_cons, List.map_nil, eq_self, if_true, if_false, reduceIte, Nat.add_eq_left, Nat.left_eq_add, Nat.reduceEqDiff, List.set_cons_zero, List.set_cons_succ] at hO)
    have hF := hO; (try simp only [Own, Item.Holds, apartI, CellsAt, Nat.reduceAdd, Nat.zero_add, List.mem_cons, List.not_mem_nil, or_false, forall_eq_or_imp, forall_eq, ne_eq, false_imp_iff, implies_true, and_true] at hF)
    rotate_left 1
    have hF := hO; (try simp only [Own, Item.Holds, apartI, CellsAt, Nat.reduceAdd, Nat.zero_add, List.mem_cons, List.not_mem_nil, or_false, forall_eq_or_imp, forall_eq, ne_eq, false_imp_iff, implies_true, and_true] at hF)
    go_simp
    apply hK _ _ _ (fun _ => True)
    (repeat (first | (with_reducible exact hO) | (with_reducible apply Own.alloc) | (with_reducible apply Own.drew) | ((with_reducible apply Own.set_at); (focus (show _ ≤ _; omega)))))
    · first | exact trivial | exact hX | exact hX.below (below1 _) | exact RdIf.gone | exact hX.keep ((Below.refl _ _).setCell (by first | omega | (dsimp only; omega)) _)
    · exact (by first | exact XStab.true | exact XStab.rd | exact XStab.rdIf)
    · first | exact fun _ _ h => h.2 | exact fun _ _ h => h | exact fun h => absurd h (by decide)
    try simp only [upd, updI, List.map_cons, List.map_nil, eq_self, if_true, if_false, reduceIte, Nat.add_eq_left, Nat.left_eq_add, Nat.reduceEqDiff, List.set_cons_zero, List.set_cons_succ, hF]
    clear hK K hF hO
    try simp only [Act.put, List.setIfInBounds_toArray, List.set_cons_zero, List.set_cons_succ]
    refine Sim.many (rs := [4, 8]) (by kernel_rfl) (by decide) ?_
    refine AllS.cons (oi := { dst := some 36, op := Op.makeSlice 23 (Operand.tmp 35) (Operand.tmp 35), type := 23, pos := "l15_completion.go:45", after := #[{ on := 3, ground := Ground.data }, { on := 3, ground := Ground.data }], guard := none }) rfl (by rfl) (fun w0 hO hX K hK => ?_) ?_
    rotate_left
    refine AllS.cons (oi := { dst := some 40, op := Op.makeSlice 50 (Operand.tmp 39) (Operand.tmp 39), type := 50, pos := "l15_completion.go:45", after := #[{ on := 7, ground := Ground.data }, { on := 7, ground := Ground.data }], guard := none }) rfl (by rfl) (fun w0 hO hX K hK => ?_) ?_
    rotate_left
    exact AllS.nil
    rotate_right 2
    (have hF := hO; (try simp only [Own, Item.Holds, apartI, CellsAt, Nat.reduceAdd, Nat.zero_add, List.mem_cons, List.not_mem_nil, or_false, forall_eq_or_imp, forall_eq, ne_eq, false_imp_iff, implies_true, and_true] at hF))
    refine wp_make15 _ _ 23 rfl 37 i0 (.agg #[.int .i64 0, .int .i64 0, .int .i64 0]) 3 24 Tryd.underlying23 hi0 hz0 hz1 hz2 N rfl rfl (by omega) (by unfold maxLen; omega) hO ?_
    intro ql wl hO2
    rw [madeP] at hO2
    apply hK _ _ _ (fun _ => True)
    · exact hO2
    · exact trivial
    · exact XStab.true
    · exact fun h => absurd h (by decide)
    clear hO hO2 hF
    clear hK K
    try simp only [Act.put, List.setIfInBounds_toArray, List.set_cons_zero, List.set_cons_succ]
    refine Sim.sP (i := 5) (d := some 37) (h := ?_)
    refine Sim.one' (i := 8) (oi := { dst := some 40, op := Op.makeSlice 50 (Operand.tmp 39) (Operand.tmp 39), type := 50, pos := "l15_completion.go:45", after := #[{ on := 7, ground := Ground.data }, { on := 7, ground := Ground.data }], guard := none }) (by kernel_rfl) rfl (by rfl) (fun w0 hO hX K hK => ?_)
    (have hF := hO; (try simp only [Own, Item.Holds, apartI, CellsAt, Nat.reduceAdd, Nat.zero_add, List.mem_cons, List.not_mem_nil, or_false, forall_eq_or_imp, forall_eq, ne_eq, false_imp_iff, implies_true, and_true] at hF))
    refine wp_make15 _ _ 50 rfl 23 i1 (.slice none 0 0) 1 24 Tryd.underlying50 hi1 hy0 hy1 hy2 N rfl rfl (by omega) (by unfold maxLen; omega) hO ?_
    intro qc wc hO2
    rw [madeSt] at hO2
    apply hK _ _ _ (fun _ => True)
    · exact hO2
    · exact trivial
    · exact XStab.true
    · exact fun h => absurd h (by decide)
    clear hO hO2 hF
    clear hK K
    try simp only [Act.put, List.setIfInBounds_toArray, List.set_cons_zero, List.set_cons_succ]
    refine Sim.sP (i := 9) (d := some 41) (h := ?_)
    refine Sim.one' (i := 11) (oi := { dst := none, op := Op.store 52 (Operand.tmp 10) (Operand.tmp 41), type := 0, pos := "l15_completion.go:45", after := #[{ on := 10, ground := Ground.data }, { on := 9, ground := Ground.data }, { on := 0, ground := Ground.phase }, { on := 1, ground := Ground.phase }, { on := 2, ground := Ground.phase }, { on := 3, ground := Ground.phase }, { on := 4, ground := Ground.phase }, { on := 5, ground := Ground.phase }, { on := 6, ground := Ground.phase }, { on := 7, ground := Ground.phase }, { on := 8, ground := Ground.phase }, { on := 9, ground := Ground.phase }, { on := 10, ground := Ground.phase }], guard := none }) (by kernel_rfl) rfl (by rfl) (fun w0 hO hX K hK => ?_)
    have hF := hO; (try simp only [Own, Item.Holds, apartI, CellsAt, Nat.reduceAdd, Nat.zero_add, List.mem_cons, List.not_mem_nil, or_false, forall_eq_or_imp, forall_eq, ne_eq, false_imp_iff, implies_true, and_true] at hF); (skip)
    go_simp
    apply hK _ _ _ (fun _ => True)
    (repeat (first | (with_reducible exact hO) | (with_reducible apply Own.alloc) | (with_reducible apply Own.drew) | ((with_reducible apply Own.set_at); (focus (show _ ≤ _; omega)))))
    · first | exact trivial | exact hX | exact hX.below (below1 _) | exact RdIf.gone | exact hX.keep ((Below.refl _ _).setCell (by first | omega | (dsimp only; omega)) _)
    · exact (by first | exact XStab.true | exact XStab.rd | exact XStab.rdIf)
    · first | exact fun _ _ h => h.2 | exact fun _ _ h => h | exact fun h => absurd h (by decide)
    try simp only [upd, updI, List.map_cons, List.map_nil, eq_self, if_true, if_false, reduceIte, Nat.add_eq_left, Nat.left_eq_add, Nat.reduceEqDiff, List.set_cons_zero, List.set_cons_succ, hF]
    clear hK K hF hO
    try simp only [Act.put, List.setIfInBounds_toArray, List.set_cons_zero, List.set_cons_succ]
    refine Sim.done (by kernel_rfl) (fun w1 hO hX => ?_) _
    (try simp only [World.size_alloc1, World.size_drew, Nat.reduceAdd] at hO); (try simp only [upd, updI, List.map_cons, List.map_nil, eq_self, if_true, if_false, reduceIte, Nat.add_eq_left, Nat.left_eq_add, Nat.reduceEqDiff, List.set_cons_zero, List.set_cons_succ] at hO)
    have hF := hO; (try simp only [Own, Item.Holds, apartI, CellsAt, Nat.reduceAdd, Nat.zero_add, List.mem_cons, List.not_mem_nil, or_false, forall_eq_or_imp, forall_eq, ne_eq, false_imp_iff, implies_true, and_true] at hF)
    rotate_left 1
    (have hF := hO; (try simp only [Own, Item.Holds, apartI, CellsAt, Nat.reduceAdd, Nat.zero_add, List.mem_cons, List.not_mem_nil, or_false, forall_eq_or_imp, forall_eq, ne_eq, false_imp_iff, implies_true, and_true] at hF))
    refine wp_make15 _ _ 50 rfl 23 i1 (.slice none 0 0) 1 24 Tryd.underlying50 hi1 hy0 hy1 hy2 N rfl rfl (by omega) (by unfold maxLen; omega) hO ?_
    intro qc wc hO2
    rw [madeSt] at hO2
    apply hK _ _ _ (fun _ => True)
    · exact hO2
    · exact trivial
    · exact XStab.true
    · exact fun h => absurd h (by decide)
    clear hO hO2 hF
    clear hK K
    try simp only [Act.put, List.setIfInBounds_toArray, List.set_cons_zero, List.set_cons_succ]
    refine Sim.one' (i := 4) (oi := { dst := some 36, op := Op.makeSlice 23 (Operand.tmp 35) (Operand.tmp 35), type := 23, pos := "l15_completion.go:45", after := #[{ on := 3, ground := Ground.data }, { on := 3, ground := Ground.data }], guard := none }) (by kernel_rfl) rfl (by rfl) (fun w0 hO hX K hK => ?_)
    (have hF := hO; (try simp only [Own, Item.Holds, apartI, CellsAt, Nat.reduceAdd, Nat.zero_add, List.mem_cons, List.not_mem_nil, or_false, forall_eq_or_imp, forall_eq, ne_eq, false_imp_iff, implies_true, and_true] at hF))
    refine wp_make15 _ _ 23 rfl 37 i0 (.agg #[.int .i64 0, .int .i64 0, .int .i64 0]) 3 24 Tryd.underlying23 hi0 hz0 hz1 hz2 N rfl rfl (by omega) (by unfold maxLen; omega) hO ?_
    intro ql wl hO2
    rw [madeP] at hO2
    apply hK _ _ _ (fun _ => True)
    · exact hO2
    · exact trivial
    · exact XStab.true
    · exact fun h => absurd h (by decide)
    clear hO hO2 hF
    clear hK K
    try simp only [Act.put, List.setIfInBounds_toArray, List.set_cons_zero, List.set_cons_succ]
    refine Sim.sP (i := 5) (d := some 37) (h := ?_)
    refine Sim.sP (i := 9) (d := some 41) (h := ?_)
    refine Sim.one' (i := 11) (oi := { dst := none, op := Op.store 52 (Operand.tmp 10) (Operand.tmp 41), type := 0, pos := "l15_completion.go:45", after := #[{ on := 10, ground := Ground.data }, { on := 9, ground := Ground.data }, { on := 0, ground := Ground.phase }, { on := 1, ground := Ground.phase }, { on := 2, ground := Ground.phase }, { on := 3, ground := Ground.phase }, { on := 4, ground := Ground.phase }, { on := 5, ground := Ground.phase }, { on := 6, ground := Ground.phase }, { on := 7, ground := Ground.phase }, { on := 8, ground := Ground.phase }, { on := 9, ground := Ground.phase }, { on := 10, ground := Ground.phase }], guard := none }) (by kernel_rfl) rfl (by rfl) (fun w0 hO hX K hK => ?_)
    have hF := hO; (try simp only [Own, Item.Holds, apartI, CellsAt, Nat.reduceAdd, Nat.zero_add, List.mem_cons, List.not_mem_nil, or_false, forall_eq_or_imp, forall_eq, ne_eq, false_imp_iff, implies_true, and_true] at hF); (skip)
    go_simp
    apply hK _ _ _ (fun _ => True)
    (repeat (first | (with_reducible exact hO) | (with_reducible apply Own.alloc) | (with_reducible apply Own.drew) | ((with_reducible apply Own.set_at); (focus (show _ ≤ _; omega)))))
    · first | exact trivial | exact hX | exact hX.below (below1 _) | exact RdIf.gone | exact hX.keep ((Below.refl _ _).setCell (by first | omega | (dsimp only; omega)) _)
    · exact (by first | exact XStab.true | exact XStab.rd | exact XStab.rdIf)
    · first | exact fun _ _ h => h.2 | exact fun _ _ h => h | exact fun h => absurd h (by decide)
    try simp only [upd, updI, List.map_cons, List.map_nil, eq_self, if_true, if_false, reduceIte, Nat.add_eq_left, Nat.left_eq_add, Nat.reduceEqDiff, List.set_cons_zero, List.set_cons_succ, hF]
    clear hK K hF hO
    try simp only [Act.put, List.setIfInBounds_toArray, List.set_cons_zero, List.set_cons_succ]
    refine Sim.done (by kernel_rfl) (fun w1 hO hX => ?_) _
    (try simp only [World.size_alloc1, World.size_drew, Nat.reduceAdd] at hO); (try simp only [upd, updI, List.map_cons, List.map_nil, eq_self, if_true, if_false, reduceIte, Nat.add_eq_left, Nat.left_eq_add, Nat.reduceEqDiff, List.set_cons_zero, List.set_cons_succ] at hO)
    have hF := hO; (try simp only [Own, Item.Holds, apartI, CellsAt, Nat.reduceAdd, Nat.zero_add, List.mem_cons, List.not_mem_nil, or_false, forall_eq_or_imp, forall_eq, ne_eq, false_imp_iff, implies_true, and_true] at hF)
    rotate_left 1
    have hF := hO; (try simp only [Own, Item.Holds, apartI, CellsAt, Nat.reduceAdd, Nat.zero_add, List.mem_cons, List.not_mem_nil, or_false, forall_eq_or_imp, forall_eq, ne_eq, false_imp_iff, implies_true, and_true] at hF)
    go_simp
    apply hK _ _ _ (fun _ => True)
    (repeat (first | (with_reducible exact hO) | (with_reducible apply Own.alloc) | (with_reducible apply Own.drew) | ((with_reducible apply Own.set_at); (focus (show _ ≤ _; omega)))))
    · first | exact trivial | exact hX | exact hX.below (below1 _) | exact RdIf.gone | exact hX.keep ((Below.refl _ _).setCell (by first | omega | (dsimp only; omega)) _)
    · exact (by first | exact XStab.true | exact XStab.rd | exact XStab.rdIf)
    · first | exact fun _ _ h => h.2 | exact fun _ _ h => h | exact fun h => absurd h (by decide)
    try simp only [upd, updI, List.map_cons, List.map_nil, eq_self, if_true, if_false, reduceIte, Nat.add_eq_left, Nat.left_eq_add, Nat.reduceEqDiff, List.set_cons_zero, List.set_cons_succ, hF]
    clear hK K hF hO
    try simp only [Act.put, List.setIfInBounds_toArray, List.set_cons_zero, List.set_cons_succ]
    refine Sim.many (rs := [3, 8]) (by kernel_rfl) (by decide) ?_
    refine AllS.cons (oi := { dst := some 35, op := Op.call { callee := Callee.builtin Builtin.len, args := #[Operand.tmp 34], argTypes := #[23] }, type := 3, pos := "l15_completion.go:45", after := #[{ on := 2, ground := Ground.data }], guard := none }) rfl (by rfl) (fun w0 hO hX K hK => ?_) ?_
    rotate_left
    refine AllS.cons (oi := { dst := some 40, op := Op.makeSlice 50 (Operand.tmp 39) (Operand.tmp 39), type := 50, pos := "l15_completion.go:45", after := #[{ on := 7, ground := Ground.data }, { on := 7, ground := Ground.data }], guard := none }) rfl (by rfl) (fun w0 hO hX K hK => ?_) ?_
    rotate_left
    exact AllS.nil
    rotate_right 2
    have hF := hO; (try simp only [Own, Item.Holds, apartI, CellsAt, Nat.reduceAdd, Nat.zero_add, List.mem_cons, List.not_mem_nil, or_false, forall_eq_or_imp, forall_eq, ne_eq, false_imp_iff, implies_true, and_true] at hF)
    go_simp
    apply hK _ _ _ (fun _ => True)
    (repeat (first | (with_reducible exact hO) | (with_reducible apply Own.alloc) | (with_reducible apply Own.drew) | ((with_reducible apply Own.set_at); (focus (show _ ≤ _; omega)))))
    · first | exact trivial | exact hX | exact hX.below (below1 _) | exact RdIf.gone | exact hX.keep ((Below.refl _ _).setCell (by first | omega | (dsimp only; omega)) _)
    · exact (by first | exact XStab.true | exact XStab.rd | exact XStab.rdIf)
    · first | exact fun _ _ h => h.2 | exact fun _ _ h => h | exact fun h => absurd h (by decide)
    try simp only [upd, updI, List.map_cons, List.map_nil, eq_self, if_true, if_false, reduceIte, Nat.add_eq_left, Nat.left_eq_add, Nat.reduceEqDiff, List.set_cons_zero, List.set_cons_succ, hF]
    clear hK K hF hO
    try simp only [Act.put, List.setIfInBounds_toArray, List.set_cons_zero, List.set_cons_succ]
    refine Sim.many (rs := [4, 8]) (by kernel_rfl) (by decide) ?_
    refine AllS.cons (oi := { dst := some 36, op := Op.makeSlice 23 (Operand.tmp 35) (Operand.tmp 35), type := 23, pos := "l15_completion.go:45", after := #[{ on := 3, ground := Ground.data }, { on := 3, ground := Ground.data }], guard := none }) rfl (by rfl) (fun w0 hO hX K hK => ?_) ?_
    rotate_left
    refine AllS.cons (oi := { dst := some 40, op := Op.makeSlice 50 (Operand.tmp 39) (Operand.tmp 39), type := 50, pos := "l15_completion.go:45", after := #[{ on := 7, ground := Ground.data }, { on := 7, ground := Ground.data }], guard := none }) rfl (by rfl) (fun w0 hO hX K hK => ?_) ?_
    rotate_left
    exact AllS.nil
    rotate_right 2
    (have hF := hO; (try simp only [Own, Item.Holds, apartI, CellsAt, Nat.reduceAdd, Nat.zero_add, List.mem_cons, List.not_mem_nil, or_false, forall_eq_or_imp, forall_eq, ne_eq, false_imp_iff, implies_true, and_true] at hF))
    refine wp_make15 _ _ 23 rfl 37 i0 (.agg #[.int .i64 0, .int .i64 0, .int .i64 0]) 3 24 Tryd.underlying23 hi0 hz0 hz1 hz2 N rfl rfl (by omega) (by unfold maxLen; omega) hO ?_
    intro ql wl hO2
    rw [madeP] at hO2
    apply hK _ _ _ (fun _ => True)
    · exact hO2
    · exact trivial
    · exact XStab.true
    · exact fun h => absurd h (by decide)
    clear hO hO2 hF
    clear hK K
    try simp only [Act.put, List.setIfInBounds_toArray, List.set_cons_zero, List.set_cons_succ]
    refine Sim.sP (i := 5) (d := some 37) (h := ?_)
    refine Sim.one' (i := 8) (oi := { dst := some 40, op := Op.makeSlice 50 (Operand.tmp 39) (Operand.tmp 39), type := 50, pos := "l15_completion.go:45", after := #[{ on := 7, ground := Ground.data }, { on := 7, ground := Ground.data }], guard := none }) (by kernel_rfl) rfl (by rfl) (fun w0 hO hX K hK => ?_)
    (have hF := hO; (try simp only [Own, Item.Holds, apartI, CellsAt, Nat.reduceAdd, Nat.zero_add, List.mem_cons, List.not_mem_nil, or_false, forall_eq_or_imp, forall_eq, ne_eq, false_imp_iff, implies_true, and_true] at hF))
    refine wp_make15 _ _ 50 rfl 23 i1 (.slice none 0 0) 1 24 Tryd.underlying50 hi1 hy0 hy1 hy2 N rfl rfl (by omega) (by unfold maxLen; omega) hO ?_
    intro qc wc hO2
    rw [madeSt] at hO2
    apply hK _ _ _ (fun _ => True)
    · exact hO2
    · exact trivial
    · exact XStab.true
    · exact fun h => absurd h (by decide)
    clear hO hO2 hF
    clear hK K
    try simp only [Act.put, List.setIfInBounds_toArray, List.set_cons_zero, List.set_cons_succ]
    refine Sim.sP (i := 9) (d := some 41) (h := ?_)
    refine Sim.one' (i := 11) (oi := { dst := none, op := Op.store 52 (Operand.tmp 10) (Operand.tmp 41), type := 0, pos := "l15_completion.go:45", after := #[{ on := 10, ground := Ground.data }, { on := 9, ground := Ground.data }, { on := 0, ground := Ground.phase }, { on := 1, ground := Ground.phase }, { on := 2, ground := Ground.phase }, { on := 3, ground := Ground.phase }, { on := 4, ground := Ground.phase }, { on := 5, ground := Ground.phase }, { on := 6, ground := Ground.phase }, { on := 7, ground := Ground.phase }, { on := 8, ground := Ground.phase }, { on := 9, ground := Ground.phase }, { on := 10, ground := Ground.phase }], guard := none }) (by kernel_rfl) rfl (by rfl) (fun w0 hO hX K hK => ?_)
    have hF := hO; (try simp only [Own, Item.Holds, apartI, CellsAt, Nat.reduceAdd, Nat.zero_add, List.mem_cons, List.not_mem_nil, or_false, forall_eq_or_imp, forall_eq, ne_eq, false_imp_iff, implies_true, and_true] at hF); (skip)
    go_simp
    apply hK _ _ _ (fun _ => True)
    (repeat (first | (with_reducible exact hO) | (with_reducible apply Own.alloc) | (with_reducible apply Own.drew) | ((with_reducible apply Own.set_at); (focus (show _ ≤ _; omega)))))
    · first | exact trivial | exact hX | exact hX.below (below1 _) | exact RdIf.gone | exact hX.keep ((Below.refl _ _).setCell (by first | omega | (dsimp only; omega)) _)
    · exact (by first | exact XStab.true | exact XStab.rd | exact XStab.rdIf)
    · first | exact fun _ _ h => h.2 | exact fun _ _ h => h | exact fun h => absurd h (by decide)
    try simp only [upd, updI, List.map_cons, List.map_nil, eq_self, if_true, if_false, reduceIte, Nat.add_eq_left, Nat.left_eq_add, Nat.reduceEqDiff, List.set_cons_zero, List.set_cons_succ, hF]
    clear hK K hF hO
    try simp only [Act.put, List.setIfInBounds_toArray, List.set_cons_zero, List.set_cons_succ]
    refine Sim.done (by kernel_rfl) (fun w1 hO hX => ?_) _
    (try simp only [World.size_alloc1, World.size_drew, Nat.reduceAdd] at hO); (try simp only [upd, updI, List.map_cons, List.map_nil, eq_self, if_true, if_false, reduceIte, Nat.add_eq_left, Nat.left_eq_add, Nat.reduceEqDiff, List.set_cons_zero, List.set_cons_succ] at hO)
    have hF := hO; (try simp only [Own, Item.Holds, apartI, CellsAt, Nat.reduceAdd, Nat.zero_add, List.mem_cons, List.not_mem_nil, or_false, forall_eq_or_imp, forall_eq, ne_eq, false_imp_iff, implies_true, and_true] at hF)
    rotate_left 1
    (have hF := hO; (try simp only [Own, Item.Holds, apartI, CellsAt, Nat.reduceAdd, Nat.zero_add, List.mem_cons, List.not_mem_nil, or_false, forall_eq_or_imp, forall_eq, ne_eq, false_imp_iff, implies_true, and_true] at hF))
    refine wp_make15 _ _ 50 rfl 23 i1 (.slice none 0 0) 1 24 Tryd.underlying50 hi1 hy0 hy1 hy2 N rfl rfl (by omega) (by unfold maxLen; omega) hO ?_
    intro qc wc hO2
    rw [madeSt] at hO2
    apply hK _ _ _ (fun _ => True)
    · exact hO2
    · exact trivial
    · exact XStab.true
    · exact fun h => absurd h (by decide)
    clear hO hO2 hF
    clear hK K
    try simp only [Act.put, List.setIfInBounds_toArray, List.set_cons_zero, List.set_cons_succ]
    refine Sim.one' (i := 4) (oi := { dst := some 36, op := Op.makeSlice 23 (Operand.tmp 35) (Operand.tmp 35), type := 23, pos := "l15_completion.go:45", after := #[{ on := 3, ground := Ground.data }, { on := 3, ground := Ground.data }], guard := none }) (by kernel_rfl) rfl (by rfl) (fun w0 hO hX K hK => ?_)
    (have hF := hO; (try simp only [Own, Item.Holds, apartI, CellsAt, Nat.reduceAdd, Nat.zero_add, List.mem_cons, List.not_mem_nil, or_false, forall_eq_or_imp, forall_eq, ne_eq, false_imp_iff, implies_true, and_true] at hF))
    refine wp_make15 _ _ 23 rfl 37 i0 (.agg #[.int .i64 0, .int .i64 0, .int .i64 0]) 3 24 Tryd.underlying23 hi0 hz0 hz1 hz2 N rfl rfl (by omega) (by unfold maxLen; omega) hO ?_
    intro ql wl hO2
    rw [madeP] at hO2
    apply hK _ _ _ (fun _ => True)
    · exact hO2
    · exact trivial
    · exact XStab.true
    · exact fun h => absurd h (by decide)
    clear hO hO2 hF
    clear hK K
    try simp only [Act.put, List.setIfInBounds_toArray, List.set_cons_zero, List.set_cons_succ]
    refine Sim.sP (i := 5) (d := some 37) (h := ?_)
    refine Sim.sP (i := 9) (d := some 41) (h := ?_)
    refine Sim.one' (i := 11) (oi := { dst := none, op := Op.store 52 (Operand.tmp 10) (Operand.tmp 41), type := 0, pos := "l15_completion.go:45", after := #[{ on := 10, ground := Ground.data }, { on := 9, ground := Ground.data }, { on := 0, ground := Ground.phase }, { on := 1, ground := Ground.phase }, { on := 2, ground := Ground.phase }, { on := 3, ground := Ground.phase }, { on := 4, ground := Ground.phase }, { on := 5, ground := Ground.phase }, { on := 6, ground := Ground.phase }, { on := 7, ground := Ground.phase }, { on := 8, ground := Ground.phase }, { on := 9, ground := Ground.phase }, { on := 10, ground := Ground.phase }], guard := none }) (by kernel_rfl) rfl (by rfl) (fun w0 hO hX K hK => ?_)
    have hF := hO; (try simp only [Own, Item.Holds, apartI, CellsAt, Nat.reduceAdd, Nat.zero_add, List.mem_cons, List.not_mem_nil, or_false, forall_eq_or_imp, forall_eq, ne_eq, false_imp_iff, implies_true, and_true] at hF); (skip)
    go_simp
    apply hK _ _ _ (fun _ => True)
    (repeat (first | (with_reducible exact hO) | (with_reducible apply Own.alloc) | (with_reducible apply Own.drew) | ((with_reducible apply Own.set_at); (focus (show _ ≤ _; omega)))))
    · first | exact trivial | exact hX | exact hX.below (below1 _) | exact RdIf.gone | exact hX.keep ((Below.refl _ _).setCell (by first | omega | (dsimp only; omega)) _)
    · exact (by first | exact XStab.true | exact XStab.rd | exact XStab.rdIf)
    · first | exact fun _ _ h => h.2 | exact fun _ _ h => h | exact fun h => absurd h (by decide)
    try simp only [upd, updI, List.map_cons, List.map_nil, eq_self, if_true, if_false, reduceIte, Nat.add_eq_left, Nat.left_eq_add, Nat.reduceEqDiff, List.set_cons_zero, List.set_cons_succ, hF]
    clear hK K hF hO
    try simp only [Act.put, List.setIfInBounds_toArray, List.set_cons_zero, List.set_cons_succ]
    refine Sim.done (by kernel_rfl) (fun w1 hO hX => ?_) _
    (try simp only [World.size_alloc1, World.size_drew, Nat.reduceAdd] at hO); (try simp only [upd, updI, List.map_cons, List.map_nil, eq_self, if_true, if_false, reduceIte, Nat.add_eq_left, Nat.left_eq_add, Nat.reduceEqDiff, List.set_cons_zero, List.set_cons_succ] at hO)
    have hF := hO; (try simp only [Own, Item.Holds, apartI, CellsAt, Nat.reduceAdd, Nat.zero_add, List.mem_cons, List.not_mem_nil, or_false, forall_eq_or_imp, forall_eq, ne_eq, false_imp_iff, implies_true, and_true] at hF)
    rotate_left 1
    (have hF := hO; (try simp only [Own, Item.Holds, apartI, CellsAt, Nat.reduceAdd, Nat.zero_add, List.mem_cons, List.not_mem_nil, or_false, forall_eq_or_imp, forall_eq, ne_eq, false_imp_iff, implies_true, and_true] at hF))
    refine wp_make15 _ _ 50 rfl 23 i1 (.slice none 0 0) 1 24 Tryd.underlying50 hi1 hy0 hy1 hy2 N rfl rfl (by omega) (by unfold maxLen; omega) hO ?_
    intro qc wc hO2
    rw [madeSt] at hO2
    apply hK _ _ _ (fun _ => True)
    · exact hO2
    · exact trivial
    · exact XStab.true
    · exact fun h => absurd h (by decide)
    clear hO hO2 hF
    clear hK K
    try simp only [Act.put, List.setIfInBounds_toArray, List.set_cons_zero, List.set_cons_succ]
    refine Sim.sO (i := 3) (d := some 35) (v := ?_) (hy := ?_) (h := ?_)
    rotate_left
    · first | refine Or.inl ⟨by rfl, fun w hO => ?_⟩ | (refine Or.inr ⟨by rfl, ?_⟩; with_reducible rfl)
      first | done | (have hF := hO; (try simp only [Own, Item.Holds, apartI, CellsAt, Nat.reduceAdd, Nat.zero_add, List.mem_cons, List.not_mem_nil, or_false, forall_eq_or_imp, forall_eq, ne_eq, false_imp_iff, implies_true, and_true] at hF); (skip); refine Out.same ?_; go_simp; all_goals with_reducible rfl)
    refine Sim.one' (i := 4) (oi := { dst := some 36, op := Op.makeSlice 23 (Operand.tmp 35) (Operand.tmp 35), type := 23, pos := "l15_completion.go:45", after := #[{ on := 3, ground := Ground.data }, { on := 3, ground := Ground.data }], guard := none }) (by kernel_rfl) rfl (by rfl) (fun w0 hO hX K hK => ?_)
    (have hF := hO; (try simp only [Own, Item.Holds, apartI, CellsAt, Nat.reduceAdd, Nat.zero_add, List.mem_cons, List.not_mem_nil, or_false, forall_eq_or_imp, forall_eq, ne_eq, false_imp_iff, implies_true, and_true] at hF))
    refine wp_make15 _ _ 23 rfl 37 i0 (.agg #[.int .i64 0, .int .i64 0, .int .i64 0]) 3 24 Tryd.underlying23 hi0 hz0 hz1 hz2 N rfl rfl (by omega) (by unfold maxLen; omega) hO ?_
    intro ql wl hO2
    rw [madeP] at hO2
    apply hK _ _ _ (fun _ => True)
    · exact hO2
    · exact trivial
    · exact XStab.true
    · exact fun h => absurd h (by decide)
    clear hO hO2 hF
    clear hK K
    try simp only [Act.put, List.setIfInBounds_toArray, List.set_cons_zero, List.set_cons_succ]
    refine Sim.sP (i := 5) (d := some 37) (h := ?_)
    refine Sim.sP (i := 9) (d := some 41) (h := ?_)
    refine Sim.one' (i := 11) (oi := { dst := none, op := Op.store 52 (Operand.tmp 10) (Operand.tmp 41), type := 0, pos := "l15_completion.go:45", after := #[{ on := 10, ground := Ground.data }, { on := 9, ground := Ground.data }, { on := 0, ground := Ground.phase }, { on := 1, ground := Ground.phase }, { on := 2, ground := Ground.phase }, { on := 3, ground := Ground.phase }, { on := 4, ground := Ground.phase }, { on := 5, ground := Ground.phase }, { on := 6, ground := Ground.phase }, { on := 7, ground := Ground.phase }, { on := 8, ground := Ground.phase }, { on := 9, ground := Ground.phase }, { on := 10, ground := Ground.phase }], guard := none }) (by kernel_rfl) rfl (by rfl) (fun w0 hO hX K hK => ?_)
    have hF := hO; (try simp only [Own, Item.Holds, apartI, CellsAt, Nat.reduceAdd, Nat.zero_add, List.mem_cons, List.not_mem_nil, or_false, forall_eq_or_imp, forall_eq, ne_eq, false_imp_iff, implies_true, and_true] at hF); (skip)
    go_simp
    apply hK _ _ _ (fun _ => True)
    (repeat (first | (with_reducible exact hO) | (with_reducible apply Own.alloc) | (with_reducible apply Own.drew) | ((with_reducible apply Own.set_at); (focus (show _ ≤ _; omega)))))
    · first | exact trivial | exact hX | exact hX.below (below1 _) | exact RdIf.gone | exact hX.keep ((Below.refl _ _).setCell (by first | omega | (dsimp only; omega)) _)
    · exact (by first | exact XStab.true | exact XStab.rd | exact XStab.rdIf)
    · first | exact fun _ _ h => h.2 | exact fun _ _ h => h | exact fun h => absurd h (by decide)
    try simp only [upd, updI, List.map_cons, List.map_nil, eq_self, if_true, if_false, reduceIte, Nat.add_eq_left, Nat.left_eq_add, Nat.reduceEqDiff, List.set_cons_zero, List.set_cons_succ, hF]
    clear hK K hF hO
    try simp only [Act.put, List.setIfInBounds_toArray, List.set_cons_zero, List.set_cons_succ]
    refine Sim.done (by kernel_rfl) (fun w1 hO hX => ?_) _
    (try simp only [World.size_alloc1, World.size_drew, Nat.reduceAdd] at hO); (try simp only [upd, updI, List.map_cons, List.map_nil, eq_self, if_true, if_false, reduceIte, Nat.add_eq_left, Nat.left_eq_add, Nat.reduceEqDiff, List.set_cons_zero, List.set_cons_succ] at hO)
    have hF := hO; (try simp only [Own, Item.Holds, apartI, CellsAt, Nat.reduceAdd, Nat.zero_add, List.mem_cons, List.not_mem_nil, or_false, forall_eq_or_imp, forall_eq, ne_eq, false_imp_iff, implies_true, and_true] at hF)
    rotate_left 1
    all_goals exact key ql qc qa _ (hO.perm (perm_cnt15 fun a => by simp only [List.count_cons]; try omega))
  · intro ql qc qa W hO
    have hF := True.intro
    have hF := hO; (try simp only [Own, Item.Holds, apartI, CellsAt, Nat.reduceAdd, Nat.zero_add, List.mem_cons, List.not_mem_nil, or_false, forall_eq_or_imp, forall_eq, ne_eq, false_imp_iff, implies_true, and_true] at hF)
    go_wp2_with ((go_at_call 51; apply own_at hO; (repeat (first | (with_reducible exact hO) | (with_reducible apply Own.alloc) | (with_reducible apply Own.drew) | ((with_reducible apply Own.set_at); (focus (show _ ≤ _; omega))))); have hG := hF; clear hF; clear hO; intro hO; refine own_call_row hO (fun hB => H3.out _ hB) ?_; clear hO; intro v w1 hO; (try simp only [World.size_alloc1, World.size_drew, Nat.reduceAdd] at hO); (try simp only [upd, updI, List.map_cons, List.map_nil, eq_self, if_true, if_false, reduceIte, Nat.add_eq_left, Nat.left_eq_add, Nat.reduceEqDiff, List.set_cons_zero, List.set_cons_succ, hG] at hO); clear hG; have hF := hO; (try simp only [Own, Item.Holds, apartI, CellsAt, Nat.reduceAdd, Nat.zero_add, List.mem_cons, List.not_mem_nil, or_false, forall_eq_or_imp, forall_eq, ne_eq, false_imp_iff, implies_true, and_true] at hF)); obtain ⟨A9, c9, hv9⟩ := (SlAt.of_row hO.1.1).form; subst hv9)
    have hO2 := own_nils15 hO N
    clear hO hF
    have hO := hO2.perm (L' := .row 37 3 (.slice A9 t c9) t (pcC T) :: .blk qa [.int .i64 f, .slice (some ⟨b1, o1, none⟩) N ca, .slice (some ⟨ql, 0, none⟩) N N, .slice (some ⟨qc, 0, none⟩) N N] :: .blk w.heap.size [.int .i64 0, .slice none 0 0, .slice none 0 0, .slice none 0 0] :: .row 37 3 (.slice (some ⟨ql, 0, none⟩) N N) N (pcC (List.replicate N pt0)) :: .row 23 1 (.slice (some ⟨qc, 0, none⟩) N N) N (List.replicate N (.slice none 0 0)) :: (rwP (List.replicate N (.slice none 0 0, [])) ++ [])) (perm_cnt15 fun a => by simp only [List.count_append, List.count_cons, List.count_nil]; omega)
    clear hO2
    go_loopw [48] (fun s wr => ∃ (k : Nat) (l : List Pt) (es : List (Value × List Pt)), k ≤ N ∧ s = .int .i64 k ∧ Hid (l.length = N ∧ (∀ x ∈ l, pvP x = true) ∧ lsO es = cfP T f c N k) ∧ Own w.heap.size (Below w.heap.size w) wr (.row 37 3 (.slice A9 t c9) t (pcC T) :: .blk qa [.int .i64 f, .slice (some ⟨b1, o1, none⟩) N ca, .slice (some ⟨ql, 0, none⟩) N N, .slice (some ⟨qc, 0, none⟩) N N] :: .blk w.heap.size [.int .i64 0, .slice none 0 0, .slice none 0 0, .slice none 0 0] :: .row 37 3 (.slice (some ⟨ql, 0, none⟩) N N) N (pcC l) :: .row 23 1 (.slice (some ⟨qc, 0, none⟩) N N) N (vsO es) :: (rwP es ++ []))) (fun s _ => N - (intOf s).toNat)
    case atStart =>
      refine ⟨0, List.replicate N pt0, List.replicate N (.slice none 0 0, []), by omega, rfl, ⟨by simp, fun x hx => ?_, ?_⟩, ?_⟩
      · rw [(List.mem_replicate.1 hx).2]; rfl
      · rw [cfP_zero]; simp [lsO]
      · have e : vsO (List.replicate N (Value.slice none 0 0, ([] : List Pt))) = List.replicate N (.slice none 0 0) := by simp [vsO]
        rw [e]; exact hO
    case round =>
      clear hO
      obtain ⟨k, l, es, hk, rfl, hes, hO⟩ := hrel
      by_cases he : k = N
      · subst he
        have HES := hid hes.out
        replace hO := hO.perm (L' := .blk w.heap.size [.int .i64 0, .slice none 0 0, .slice none 0 0, .slice none 0 0] :: .row 37 3 (.slice A9 t c9) t (pcC T) :: .blk qa [.int .i64 f, .slice (some ⟨b1, o1, none⟩) k ca, .slice (some ⟨ql, 0, none⟩) k k, .slice (some ⟨qc, 0, none⟩) k k] :: .row 37 3 (.slice (some ⟨ql, 0, none⟩) k k) k (pcC l) :: .row 23 1 (.slice (some ⟨qc, 0, none⟩) k k) k (vsO es) :: (rwP es ++ [])) (perm_cnt15 fun a => by simp only [List.count_append, List.count_cons, List.count_nil]; omega)
        have hF := True.intro
        have hF := hO; (try simp only [Own, Item.Holds, apartI, CellsAt, Nat.reduceAdd, Nat.zero_add, List.mem_cons, List.not_mem_nil, or_false, forall_eq_or_imp, forall_eq, ne_eq, false_imp_iff, implies_true, and_true] at hF)
        go_wp2_with fail
        replace hO := own_setB15 (i := 3) (u := .slice (some ⟨qc, 0, none⟩) k k) (own_setB15 (i := 2) (u := .slice (some ⟨ql, 0, none⟩) k k) (own_setB15 (i := 1) (u := .slice (some ⟨b1, o1, none⟩) k ca) (own_setB15 (i := 0) (u := .int .i64 f) hO)))
        simp only [List.set_cons_zero, List.set_cons_succ] at hO
        have HCF := hid (show cfP T f c k k = cfA T f c by have := cfP_full T f c; rwa [HNL.out] at this)
        apply own_end hO
        (repeat (first | (with_reducible exact hO) | (with_reducible apply Own.alloc) | (with_reducible apply Own.drew) | ((with_reducible apply Own.set_at); (focus (show _ ≤ _; omega)))))
        have hG := hF; clear hF; clear hO; intro hO
        refine own_ret (v := .tuple #[.agg #[.int .i64 f, .slice (some ⟨b1, o1, none⟩) k ca, .slice (some ⟨ql, 0, none⟩) k k, .slice (some ⟨qc, 0, none⟩) k k], .bool true]) hO ?_ rfl (fun hO => ⟨ql, k, qc, k, l, es, rfl, ⟨HES.out.1, HES.out.2.1, HES.out.2.2.trans HCF.out⟩, Own.sub (.cons _ (.cons _ (.cons _ (.refl _)))) hO⟩)
        clear hO; intro w1 hO
        (try simp only [World.size_alloc1, World.size_drew, Nat.reduceAdd] at hO); (try simp only [upd, updI, List.map_cons, List.map_nil, eq_self, if_true, if_false, reduceIte, Nat.add_eq_left, Nat.left_eq_add, Nat.reduceEqDiff, List.set_cons_zero, List.set_cons_succ, hG] at hO); clear hG
        have hF := hO; (try simp only [Own, Item.Holds, apartI, CellsAt, Nat.reduceAdd, Nat.zero_add, List.mem_cons, List.not_mem_nil, or_false, forall_eq_or_imp, forall_eq, ne_eq, false_imp_iff, implies_true, and_true] at hF)
        simp [results, Tryd.results30, go_sem, hF]
      · have hkl : k < N := by omega
        have hkl2 : (k : Int) < (N : Int) := by omega
        have hk0 : (0 : Int) ≤ (k : Int) := by omega
        obtain ⟨U, V, v0, hes2, hU, hput⟩ := cfP_step hes.out.2.2 hkl
        subst hes2
        have HPUT := hid hput
        have HUL := hid hU
        have HUV := hid (show (U ++ (v0, []) :: V).length = N by have := congrArg List.length hes.out.2.2; rwa [List.length_map, cfP_len] at this)
        obtain ⟨y, hy⟩ : ∃ x, c[k]? = some x := ⟨_, List.getElem?_eq_getElem (by have := HNL.out; omega)⟩
        have HY := hid hy
        have HJL := hid (fun j => cfJ_len T f c k j)
        have hl9 := hid (And.intro hes.out.1 hes.out.2.1)
        clear hes hput hU hy he
        go_wp2_with fail
        go_loopw [53] (fun s wr => ∃ (j : Nat) (l : List Pt) (v : Value), j ≤ t ∧ s = .int .i64 j ∧ Hid (l.length = N ∧ (∀ x ∈ l, pvP x = true)) ∧ Own w.heap.size (Below w.heap.size w) wr (.row 37 3 (.slice A9 t c9) t (pcC T) :: .blk qa [.int .i64 f, .slice (some ⟨b1, o1, none⟩) N ca, .slice (some ⟨ql, 0, none⟩) N N, .slice (some ⟨qc, 0, none⟩) N N] :: .blk w.heap.size [.int .i64 0, .slice none 0 0, .slice none 0 0, .slice none 0 0] :: .row 37 3 (.slice (some ⟨ql, 0, none⟩) N N) N (pcC l) :: .row 23 1 (.slice (some ⟨qc, 0, none⟩) N N) N (vsO (U ++ (v, cfJ T f c k j) :: V)) :: (rwP (U ++ (v, cfJ T f c k j) :: V) ++ []))) (fun s _ => t - (intOf s).toNat)
        case atStart => exact ⟨0, l, v0, by omega, rfl, hl9.out, by rw [cfJ_zero]; exact hO⟩
        case round =>
          clear hO hl9
          obtain ⟨j, l, v, hj, rfl, hl9, hO⟩ := hrel
          by_cases he : j = t
          · subst he
            have HFU := hid (show cfJ T f c k j = cfL T f c k by have := cfJ_full T f c k; rwa [HTL.out] at this)
            rw [HFU.out] at hO
            go_wp2_with fail
            go_roundw
            case rel => exact ⟨k + 1, l, U ++ (v, cfL T f c k) :: V, by omega, by go_num, ⟨hl9.out.1, hl9.out.2, HPUT.out v⟩, hO⟩
            case measure => simp [intOf] <;> omega
          · have hjl : j < t := by omega
            have hjl2 : (j : Int) < (t : Int) := by omega
            have hj0 : (0 : Int) ≤ (j : Int) := by omega
            obtain ⟨q9, cap9, hv9, hq9, hq8⟩ := hO.row_open (by omega)
            cases hv9
            have hq7 : c9 ≤ 9223372036854775807 := by unfold maxLen at hq8; omega
            clear hq8
            obtain ⟨p, hp⟩ : ∃ x, T[j]? = some x := ⟨_, List.getElem?_eq_getElem (by have := HTL.out; omega)⟩
            have e0 := hO.row_cell (pcC_at hp).1
            have e1 := hO.row_cell (pcC_at hp).2.1
            have e2 := hO.row_cell (pcC_at hp).2.2
            have pp := HTP.out p (List.mem_of_getElem? hp)
            have hup := cfJ_up (f := f) (c := c) (k := k) hp
            obtain ⟨b, hb9⟩ : ∃ b, cfB f c k p = b := ⟨_, rfl⟩
            have HFI := hid (fun (W : World) (L : List Item) (hW : Own w.heap.size (Below w.heap.size w) W (.row 37 3 (.slice (some ⟨ql, 0, none⟩) N N) N (pcC l) :: L)) => fitI_own ql N qc N HB.out hl9.out.1 hl9.out.2 HY.out pp hb9 hW)
            rw [hb9] at hup
            have HL2 := hid (show (l.set k p).length = N ∧ (∀ x ∈ l.set k p, pvP x = true) from ⟨by rw [List.length_set]; exact hl9.out.1, pl_set hl9.out.2 pp⟩)
            obtain ⟨o, ho⟩ : ∃ o, cfJ T f c k j = o := ⟨_, rfl⟩
            rw [ho] at hO hup
            have hol : o.length ≤ 63 := by rw [← ho]; have := HJL.out j; have := HTL.out; omega
            have HUP := hid hup
            obtain ⟨Av, cv, hvf⟩ := (own_slat15 hO (e := 37) (size := 3) (v := v) (k := o.length) (xs := pcC o) (List.mem_cons_of_mem _ (List.mem_cons_of_mem _ (List.mem_cons_of_mem _ (List.mem_cons_of_mem _ (List.mem_cons_of_mem _ (List.mem_append_left _ (by rw [rwP_append, rwP_cons15]; exact List.mem_append_right _ List.mem_cons_self)))))))).form
            subst hvf
            obtain ⟨m, hm⟩ : ∃ m, o.length = m := ⟨_, rfl⟩
            rw [hm] at hO hol
            have HM := hid hm
            clear hp hb9 ho hup pp he hm
            cases b
            · have hF := True.intro
              have hF := hO; (try simp only [Own, Item.Holds, apartI, CellsAt, Nat.reduceAdd, Nat.zero_add, List.mem_cons, List.not_mem_nil, or_false, forall_eq_or_imp, forall_eq, ne_eq, false_imp_iff, implies_true, and_true] at hF)
              go_wp2_with (go_at_call 52; apply own_at hO; (repeat (first | (with_reducible exact hO) | (with_reducible apply Own.alloc) | (with_reducible apply Own.drew) | ((with_reducible apply Own.set_at); (focus (show _ ≤ _; omega))))); have hG := hF; clear hF; clear hO; intro hO; (try simp only [World.size_alloc1, World.size_drew, Nat.reduceAdd] at hO); (try simp only [upd, updI, List.map_cons, List.map_nil, eq_self, if_true, if_false, reduceIte, Nat.add_eq_left, Nat.left_eq_add, Nat.reduceEqDiff, List.set_cons_zero, List.set_cons_succ, hG] at hO); clear hG; replace hO := hO.perm (List.perm_middle (l₁ := [_, _, _, _])); simp only [List.cons_append, List.nil_append] at hO; refine own_callE hO (fun hW => HFI.out _ _ hW) ?_; clear hO; rintro v L' w1 ⟨rfl, rfl⟩ hO; (try simp only [World.size_alloc1, World.size_drew, Nat.reduceAdd] at hO); (try simp only [upd, updI, List.map_cons, List.map_nil, eq_self, if_true, if_false, reduceIte, Nat.add_eq_left, Nat.left_eq_add, Nat.reduceEqDiff, List.set_cons_zero, List.set_cons_succ] at hO); have hF := hO; (try simp only [Own, Item.Holds, apartI, CellsAt, Nat.reduceAdd, Nat.zero_add, List.mem_cons, List.not_mem_nil, or_false, forall_eq_or_imp, forall_eq, ne_eq, false_imp_iff, implies_true, and_true] at hF))
              have HN := hid (show cfJ T f c k (j + 1) = o by rw [HUP.out, if_neg (by decide), List.append_nil])
              go_roundw
              case rel => exact ⟨j + 1, l.set k p, .slice Av m cv, by omega, by go_num, HL2.out, by
                rw [HN.out]
                exact (Own.sub (.cons_cons _ (.cons _ (.refl _))) hO).perm (perm_cnt15 fun a => by simp only [List.count_append, List.count_cons, List.count_nil]; omega)⟩
              case measure => simp [intOf] <;> omega
            · have HN := hid (show cfJ T f c k (j + 1) = o ++ [p] by rw [HUP.out, if_pos rfl])
              have HLEN := hid (show (o ++ [p]).length = m + 1 by rw [List.length_append, HM.out]; rfl)
              have HVS := hid (pt_at15 (U := U) (V := V) (p := (.slice Av m cv, o)) HUL.out)
              have HST := hid (fun (v' : Value) => pt_vs15 (U := U) (V := V) (p := (.slice Av m cv, o)) (p' := (v', o ++ [p])) HUL.out)
              obtain ⟨vs, hvs⟩ : ∃ vs, vsO (U ++ (.slice Av m cv, o) :: V) = vs := ⟨_, rfl⟩
              have hF := True.intro
              have hF := hO; (try simp only [Own, Item.Holds, apartI, CellsAt, Nat.reduceAdd, Nat.zero_add, List.mem_cons, List.not_mem_nil, or_false, forall_eq_or_imp, forall_eq, ne_eq, false_imp_iff, implies_true, and_true] at hF)
              go_wp2_with (go_at_call 52; apply own_at hO; (repeat (first | (with_reducible exact hO) | (with_reducible apply Own.alloc) | (with_reducible apply Own.drew) | ((with_reducible apply Own.set_at); (focus (show _ ≤ _; omega))))); have hG := hF; clear hF; clear hO; intro hO; (try simp only [World.size_alloc1, World.size_drew, Nat.reduceAdd] at hO); (try simp only [upd, updI, List.map_cons, List.map_nil, eq_self, if_true, if_false, reduceIte, Nat.add_eq_left, Nat.left_eq_add, Nat.reduceEqDiff, List.set_cons_zero, List.set_cons_succ, hG] at hO); clear hG; replace hO := hO.perm (List.perm_middle (l₁ := [_, _, _, _])); simp only [List.cons_append, List.nil_append] at hO; refine own_callE hO (fun hW => HFI.out _ _ hW) ?_; clear hO; rintro v L' w1 ⟨rfl, rfl⟩ hO; (try simp only [World.size_alloc1, World.size_drew, Nat.reduceAdd] at hO); (try simp only [upd, updI, List.map_cons, List.map_nil, eq_self, if_true, if_false, reduceIte, Nat.add_eq_left, Nat.left_eq_add, Nat.reduceEqDiff, List.set_cons_zero, List.set_cons_succ] at hO); have hF := hO; (try simp only [Own, Item.Holds, apartI, CellsAt, Nat.reduceAdd, Nat.zero_add, List.mem_cons, List.not_mem_nil, or_false, forall_eq_or_imp, forall_eq, ne_eq, false_imp_iff, implies_true, and_true] at hF))
              obtain ⟨qp, hqp⟩ : ∃ q, wr.heap.size = q := ⟨_, rfl⟩
              rw [hqp] at hO ⊢
              rw [hvs] at hO HVS HST
              clear hqp hF
              apply own_code hO
              (repeat (first | (with_reducible exact hO) | (with_reducible apply Own.alloc) | (with_reducible apply Own.drew) | ((with_reducible apply Own.set_at); (focus (show _ ≤ _; omega)))))
              have hG := hF; clear hF; clear hO; intro hO
              (try simp only [World.size_alloc1, World.size_drew, Nat.reduceAdd] at hO); (try simp only [upd, updI, List.map_cons, List.map_nil, eq_self, if_true, if_false, reduceIte, Nat.add_eq_left, Nat.left_eq_add, Nat.reduceEqDiff, List.set_cons_zero, List.set_cons_succ, hG] at hO); clear hG
              refine region_own (X := fun _ => True) [10, 12] (by kernel_rfl) (hO) (trivial) (by first | exact XStab.true | exact XStab.rd | exact XStab.rdIf) ?_
              clear hO
              refine Sim.sP (i := 0) (d := some 61) (h := ?_)
              refine Sim.sP (i := 2) (d := some 63) (h := ?_)
              refine Sim.sP (i := 3) (d := some 64) (h := ?_)
              refine Sim.sD (i := 4) (d := some 65) (v := ?_) (D := [4, 6, 7, 10, 11, 12]) (hy := ?_) (h := ?_)
              rotate_left
              · first | refine Or.inl ⟨by rfl, fun w hO => ?_⟩ | (refine Or.inr ⟨by rfl, ?_⟩; with_reducible rfl)
                first | done | (have hF := hO; (try simp only [Own, Item.Holds, apartI, CellsAt, Nat.reduceAdd, Nat.zero_add, List.mem_cons, List.not_mem_nil, or_false, forall_eq_or_imp, forall_eq, ne_eq, false_imp_iff, implies_true, and_true] at hF); ((have g0 := own_mem15 (q := qc) (e := 23) (size := 1) (k := N) (cap := N) (xs := vs) (i := k) hO (by simp) HVS.out)); refine Out.same ?_; go_simp; all_goals with_reducible rfl)
              refine Sim.sP (i := 5) (d := some 66) (h := ?_)
              refine Sim.sP (i := 6) (d := some 67) (h := ?_)
              refine Sim.sO (i := 7) (d := some 68) (v := ?_) (hy := ?_) (h := ?_)
              rotate_left
              · first | refine Or.inl ⟨by rfl, fun w hO => ?_⟩ | (refine Or.inr ⟨by rfl, ?_⟩; with_reducible rfl)
                first | done | (have hF := hO; (try simp only [Own, Item.Holds, apartI, CellsAt, Nat.reduceAdd, Nat.zero_add, List.mem_cons, List.not_mem_nil, or_false, forall_eq_or_imp, forall_eq, ne_eq, false_imp_iff, implies_true, and_true] at hF); ((have g0 := own_mem15 (q := qc) (e := 23) (size := 1) (k := N) (cap := N) (xs := vs) (i := k) hO (by simp) HVS.out)); refine Out.same ?_; go_simp; all_goals with_reducible rfl)
              refine Sim.sD (i := 8) (d := some 69) (v := ?_) (D := [8, 9, 10, 11, 12]) (hy := ?_) (h := ?_)
              rotate_left
              · first | refine Or.inl ⟨by rfl, fun w hO => ?_⟩ | (refine Or.inr ⟨by rfl, ?_⟩; with_reducible rfl)
                first | done | (have hF := hO; (try simp only [Own, Item.Holds, apartI, CellsAt, Nat.reduceAdd, Nat.zero_add, List.mem_cons, List.not_mem_nil, or_false, forall_eq_or_imp, forall_eq, ne_eq, false_imp_iff, implies_true, and_true] at hF); ((have g0 := own_mem15 (q := qc) (e := 23) (size := 1) (k := N) (cap := N) (xs := vs) (i := k) hO (by simp) HVS.out)); refine Out.same ?_; go_simp; all_goals with_reducible rfl)
              refine Sim.many (rs := [1, 9]) (by kernel_rfl) (by decide) ?_
              refine AllS.cons (oi := { dst := some 62, op := Op.load 50 (Operand.tmp 61), type := 50, pos := "l15_completion.go:53", after := #[{ on := 0, ground := Ground.data }], guard := none }) rfl (by rfl) (fun w0 hO hX K hK => ?_) ?_
              rotate_left
              refine AllS.cons (oi := { dst := some 70, op := Op.buildSlice 23 1 #[(0, Operand.tmp 69)], type := 23, pos := "l15_completion.go:53", after := #[{ on := 8, ground := Ground.data }], guard := none }) rfl (by rfl) (fun w0 hO hX K hK => ?_) ?_
              rotate_left
              exact AllS.nil
              rotate_right 2
              have hF := hO; (try simp only [Own, Item.Holds, apartI, CellsAt, Nat.reduceAdd, Nat.zero_add, List.mem_cons, List.not_mem_nil, or_false, forall_eq_or_imp, forall_eq, ne_eq, false_imp_iff, implies_true, and_true] at hF); ((have g0 := own_mem15 (q := qc) (e := 23) (size := 1) (k := N) (cap := N) (xs := vs) (i := k) hO (by simp) HVS.out))
              go_simp
              apply hK _ _ _ (fun _ => True)
              (repeat (first | (with_reducible exact hO) | (with_reducible apply Own.alloc) | (with_reducible apply Own.drew) | ((with_reducible apply Own.set_at); (focus (show _ ≤ _; omega)))))
              · first | exact trivial | exact hX | exact hX.below (below1 _) | exact RdIf.gone | exact hX.keep ((Below.refl _ _).setCell (by first | omega | (dsimp only; omega)) _)
              · exact (by first | exact XStab.true | exact XStab.rd | exact XStab.rdIf)
              · first | exact fun _ _ h => h.2 | exact fun _ _ h => h | exact fun h => absurd h (by decide)
              try simp only [upd, updI, List.map_cons, List.map_nil, eq_self, if_true, if_false, reduceIte, Nat.add_eq_left, Nat.left_eq_add, Nat.reduceEqDiff, List.set_cons_zero, List.set_cons_succ, hF]
              clear hK K hF hO
              try simp only [Act.put, List.setIfInBounds_toArray, List.set_cons_zero, List.set_cons_succ]
              refine Sim.one' (i := 9) (oi := { dst := some 70, op := Op.buildSlice 23 1 #[(0, Operand.tmp 69)], type := 23, pos := "l15_completion.go:53", after := #[{ on := 8, ground := Ground.data }], guard := none }) (by kernel_rfl) rfl (by rfl) (fun w0 hO hX K hK => ?_)
              have hF := hO; (try simp only [Own, Item.Holds, apartI, CellsAt, Nat.reduceAdd, Nat.zero_add, List.mem_cons, List.not_mem_nil, or_false, forall_eq_or_imp, forall_eq, ne_eq, false_imp_iff, implies_true, and_true] at hF)
              go_simp
              apply hK _ _ _ (fun _ => True)
              (repeat (first | (with_reducible exact hO) | (with_reducible apply Own.alloc) | (with_reducible apply Own.drew) | ((with_reducible apply Own.set_at); (focus (show _ ≤ _; omega)))))
              · first | exact trivial | exact hX | exact hX.below (below1 _) | exact RdIf.gone | exact hX.keep ((Below.refl _ _).setCell (by first | omega | (dsimp only; omega)) _)
              · exact (by first | exact XStab.true | exact XStab.rd | exact XStab.rdIf)
              · first | exact fun _ _ h => h.2 | exact fun _ _ h => h | exact fun h => absurd h (by decide)
              try simp only [upd, updI, List.map_cons, List.map_nil, eq_self, if_true, if_false, reduceIte, Nat.add_eq_left, Nat.left_eq_add, Nat.reduceEqDiff, List.set_cons_zero, List.set_cons_succ, hF]
              clear hK K hF hO
              try simp only [Act.put, List.setIfInBounds_toArray, List.set_cons_zero, List.set_cons_succ]
              refine Sim.one' (i := 10) (oi := { dst := some 71, op := Op.call { callee := Callee.builtin Builtin.append, args := #[Operand.tmp 68, Operand.tmp 70], argTypes := #[23, 23] }, type := 23, pos := "l15_completion.go:53", after := #[{ on := 7, ground := Ground.data }, { on := 9, ground := Ground.data }], guard := none }) (by kernel_rfl) rfl (by rfl) (fun w0 hO hX K hK => ?_)
              (have hF := hO; (try simp only [Own, Item.Holds, apartI, CellsAt, Nat.reduceAdd, Nat.zero_add, List.mem_cons, List.not_mem_nil, or_false, forall_eq_or_imp, forall_eq, ne_eq, false_imp_iff, implies_true, and_true] at hF))
              have hO2 := pt_pull15 [.row 37 3 (.slice (some ⟨ql, 0, none⟩) N N) N (pcC (l.set k p)), .blk qp [.int .i64 p.s, .int .i64 p.a, .int .i64 p.o], .row 37 3 (.slice (some ⟨q9, 0, none⟩) t c9) t (pcC T), .blk qa [.int .i64 f, .slice (some ⟨b1, o1, none⟩) N ca, .slice (some ⟨ql, 0, none⟩) N N, .slice (some ⟨qc, 0, none⟩) N N], .blk w.heap.size [.int .i64 0, .slice none 0 0, .slice none 0 0, .slice none 0 0], .row 23 1 (.slice (some ⟨qc, 0, none⟩) N N) N vs] hO
              dsimp only at hO2
              rw [HM.out] at hO2
              refine wp_append15 _ _ 23 rfl 37 i0 (.agg #[.int .i64 0, .int .i64 0, .int .i64 0]) 3 24 Tryd.underlying23 hi0 hz0 hz1 hz2 rfl (by decide) rfl rfl hO2 rfl one3t (by unfold maxLen; omega) (by omega) ?_
              intro v' wa hO3
              rw [pcC_snoc] at hO3
              simp only [List.cons_append, List.nil_append] at hO3
              obtain ⟨qv, cv', hv', _, _⟩ := hO3.row_open (by omega)
              subst hv'
              apply hK _ _ _ (fun _ => True)
              · exact hO3
              · exact trivial
              · exact XStab.true
              · exact fun h => absurd h (by decide)
              clear hO hO2 hO3 hF
              clear hK K
              try simp only [Act.put, List.setIfInBounds_toArray, List.set_cons_zero, List.set_cons_succ]
              refine Sim.sP (i := 11) (d := some 72) (h := ?_)
              refine Sim.one' (i := 12) (oi := { dst := none, op := Op.store 23 (Operand.tmp 72) (Operand.tmp 71), type := 0, pos := "l15_completion.go:53", after := #[{ on := 11, ground := Ground.data }, { on := 10, ground := Ground.data }, { on := 10, ground := Ground.chain }, { on := 0, ground := Ground.phase }, { on := 1, ground := Ground.phase }, { on := 2, ground := Ground.phase }, { on := 3, ground := Ground.phase }, { on := 4, ground := Ground.phase }, { on := 5, ground := Ground.phase }, { on := 6, ground := Ground.phase }, { on := 7, ground := Ground.phase }, { on := 8, ground := Ground.phase }, { on := 9, ground := Ground.phase }, { on := 10, ground := Ground.phase }], guard := none }) (by kernel_rfl) rfl (by rfl) (fun w0 hO hX K hK => ?_)
              (have hF := hO; (try simp only [Own, Item.Holds, apartI, CellsAt, Nat.reduceAdd, Nat.zero_add, List.mem_cons, List.not_mem_nil, or_false, forall_eq_or_imp, forall_eq, ne_eq, false_imp_iff, implies_true, and_true] at hF))
              replace hO := hO.perm (List.perm_middle (l₁ := [_, _, _, _, _, _]))
              simp only [List.cons_append, List.nil_append] at hO
              have g0 := hO.row_cell HVS.out
              have g1 := hO.row_free k
              go_simp
              apply hK _ _ _ (fun _ => True)
              · exact hO.row_set k _
              · exact trivial
              · exact XStab.true
              · exact fun h => absurd h (by decide)
              clear hO hF g0 g1
              clear hK K
              try simp only [Act.put, List.setIfInBounds_toArray, List.set_cons_zero, List.set_cons_succ]
              refine Sim.done (by kernel_rfl) (fun w1 hO hX => ?_) _
              (try simp only [World.size_alloc1, World.size_drew, Nat.reduceAdd] at hO); (try simp only [upd, updI, List.map_cons, List.map_nil, eq_self, if_true, if_false, reduceIte, Nat.add_eq_left, Nat.left_eq_add, Nat.reduceEqDiff, List.set_cons_zero, List.set_cons_succ] at hO)
              have hF := hO; (try simp only [Own, Item.Holds, apartI, CellsAt, Nat.reduceAdd, Nat.zero_add, List.mem_cons, List.not_mem_nil, or_false, forall_eq_or_imp, forall_eq, ne_eq, false_imp_iff, implies_true, and_true] at hF)
              rotate_left 1
              have hF := hO; (try simp only [Own, Item.Holds, apartI, CellsAt, Nat.reduceAdd, Nat.zero_add, List.mem_cons, List.not_mem_nil, or_false, forall_eq_or_imp, forall_eq, ne_eq, false_imp_iff, implies_true, and_true] at hF)
              go_simp
              apply hK _ _ _ (fun _ => True)
              (repeat (first | (with_reducible exact hO) | (with_reducible apply Own.alloc) | (with_reducible apply Own.drew) | ((with_reducible apply Own.set_at); (focus (show _ ≤ _; omega)))))
              · first | exact trivial | exact hX | exact hX.below (below1 _) | exact RdIf.gone | exact hX.keep ((Below.refl _ _).setCell (by first | omega | (dsimp only; omega)) _)
              · exact (by first | exact XStab.true | exact XStab.rd | exact XStab.rdIf)
              · first | exact fun _ _ h => h.2 | exact fun _ _ h => h | exact fun h => absurd h (by decide)
              try simp only [upd, updI, List.map_cons, List.map_nil, eq_self, if_true, if_false, reduceIte, Nat.add_eq_left, Nat.left_eq_add, Nat.reduceEqDiff, List.set_cons_zero, List.set_cons_succ, hF]
              clear hK K hF hO
              try simp only [Act.put, List.setIfInBounds_toArray, List.set_cons_zero, List.set_cons_succ]
              refine Sim.many (rs := [1, 10]) (by kernel_rfl) (by decide) ?_
              refine AllS.cons (oi := { dst := some 62, op := Op.load 50 (Operand.tmp 61), type := 50, pos := "l15_completion.go:53", after := #[{ on := 0, ground := Ground.data }], guard := none }) rfl (by rfl) (fun w0 hO hX K hK => ?_) ?_
              rotate_left
              refine AllS.cons (oi := { dst := some 71, op := Op.call { callee := Callee.builtin Builtin.append, args := #[Operand.tmp 68, Operand.tmp 70], argTypes := #[23, 23] }, type := 23, pos := "l15_completion.go:53", after := #[{ on := 7, ground := Ground.data }, { on := 9, ground := Ground.data }], guard := none }) rfl (by rfl) (fun w0 hO hX K hK => ?_) ?_
              rotate_left
              exact AllS.nil
              rotate_right 2
              have hF := hO; (try simp only [Own, Item.Holds, apartI, CellsAt, Nat.reduceAdd, Nat.zero_add, List.mem_cons, List.not_mem_nil, or_false, forall_eq_or_imp, forall_eq, ne_eq, false_imp_iff, implies_true, and_true] at hF); ((have g0 := own_mem15 (q := qc) (e := 23) (size := 1) (k := N) (cap := N) (xs := vs) (i := k) hO (by simp) HVS.out))
              go_simp
              apply hK _ _ _ (fun _ => True)
              (repeat (first | (with_reducible exact hO) | (with_reducible apply Own.alloc) | (with_reducible apply Own.drew) | ((with_reducible apply Own.set_at); (focus (show _ ≤ _; omega)))))
              · first | exact trivial | exact hX | exact hX.below (below1 _) | exact RdIf.gone | exact hX.keep ((Below.refl _ _).setCell (by first | omega | (dsimp only; omega)) _)
              · exact (by first | exact XStab.true | exact XStab.rd | exact XStab.rdIf)
              · first | exact fun _ _ h => h.2 | exact fun _ _ h => h | exact fun h => absurd h (by decide)
              try simp only [upd, updI, List.map_cons, List.map_nil, eq_self, if_true, if_false, reduceIte, Nat.add_eq_left, Nat.left_eq_add, Nat.reduceEqDiff, List.set_cons_zero, List.set_cons_succ, hF]
              clear hK K hF hO
              try simp only [Act.put, List.setIfInBounds_toArray, List.set_cons_zero, List.set_cons_succ]
              refine Sim.one' (i := 10) (oi := { dst := some 71, op := Op.call { callee := Callee.builtin Builtin.append, args := #[Operand.tmp 68, Operand.tmp 70], argTypes := #[23, 23] }, type := 23, pos := "l15_completion.go:53", after := #[{ on := 7, ground := Ground.data }, { on := 9, ground := Ground.data }], guard := none }) (by kernel_rfl) rfl (by rfl) (fun w0 hO hX K hK => ?_)
              (have hF := hO; (try simp only [Own, Item.Holds, apartI, CellsAt, Nat.reduceAdd, Nat.zero_add, List.mem_cons, List.not_mem_nil, or_false, forall_eq_or_imp, forall_eq, ne_eq, false_imp_iff, implies_true, and_true] at hF))
              have hO2 := pt_pull15 [.row 37 3 (.slice (some ⟨ql, 0, none⟩) N N) N (pcC (l.set k p)), .blk qp [.int .i64 p.s, .int .i64 p.a, .int .i64 p.o], .row 37 3 (.slice (some ⟨q9, 0, none⟩) t c9) t (pcC T), .blk qa [.int .i64 f, .slice (some ⟨b1, o1, none⟩) N ca, .slice (some ⟨ql, 0, none⟩) N N, .slice (some ⟨qc, 0, none⟩) N N], .blk w.heap.size [.int .i64 0, .slice none 0 0, .slice none 0 0, .slice none 0 0], .row 23 1 (.slice (some ⟨qc, 0, none⟩) N N) N vs] hO
              dsimp only at hO2
              rw [HM.out] at hO2
              refine wp_append15 _ _ 23 rfl 37 i0 (.agg #[.int .i64 0, .int .i64 0, .int .i64 0]) 3 24 Tryd.underlying23 hi0 hz0 hz1 hz2 rfl (by decide) rfl rfl hO2 rfl one3t (by unfold maxLen; omega) (by omega) ?_
              intro v' wa hO3
              rw [pcC_snoc] at hO3
              simp only [List.cons_append, List.nil_append] at hO3
              obtain ⟨qv, cv', hv', _, _⟩ := hO3.row_open (by omega)
              subst hv'
              apply hK _ _ _ (fun _ => True)
              · exact hO3
              · exact trivial
              · exact XStab.true
              · exact fun h => absurd h (by decide)
              clear hO hO2 hO3 hF
              clear hK K
              try simp only [Act.put, List.setIfInBounds_toArray, List.set_cons_zero, List.set_cons_succ]
              refine Sim.sP (i := 11) (d := some 72) (h := ?_)
              refine Sim.one' (i := 12) (oi := { dst := none, op := Op.store 23 (Operand.tmp 72) (Operand.tmp 71), type := 0, pos := "l15_completion.go:53", after := #[{ on := 11, ground := Ground.data }, { on := 10, ground := Ground.data }, { on := 10, ground := Ground.chain }, { on := 0, ground := Ground.phase }, { on := 1, ground := Ground.phase }, { on := 2, ground := Ground.phase }, { on := 3, ground := Ground.phase }, { on := 4, ground := Ground.phase }, { on := 5, ground := Ground.phase }, { on := 6, ground := Ground.phase }, { on := 7, ground := Ground.phase }, { on := 8, ground := Ground.phase }, { on := 9, ground := Ground.phase }, { on := 10, ground := Ground.phase }], guard := none }) (by kernel_rfl) rfl (by rfl) (fun w0 hO hX K hK => ?_)
              (have hF := hO; (try simp only [Own, Item.Holds, apartI, CellsAt, Nat.reduceAdd, Nat.zero_add, List.mem_cons, List.not_mem_nil, or_false, forall_eq_or_imp, forall_eq, ne_eq, false_imp_iff, implies_true, and_true] at hF))
              replace hO := hO.perm (List.perm_middle (l₁ := [_, _, _, _, _, _]))
              simp only [List.cons_append, List.nil_append] at hO
              have g0 := hO.row_cell HVS.out
              have g1 := hO.row_free k
              go_simp
              apply hK _ _ _ (fun _ => True)
              · exact hO.row_set k _
              · exact trivial
              · exact XStab.true
              · exact fun h => absurd h (by decide)
              clear hO hF g0 g1
              clear hK K
              try simp only [Act.put, List.setIfInBounds_toArray, List.set_cons_zero, List.set_cons_succ]
              refine Sim.done (by kernel_rfl) (fun w1 hO hX => ?_) _
              (try simp only [World.size_alloc1, World.size_drew, Nat.reduceAdd] at hO); (try simp only [upd, updI, List.map_cons, List.map_nil, eq_self, if_true, if_false, reduceIte, Nat.add_eq_left, Nat.left_eq_add, Nat.reduceEqDiff, List.set_cons_zero, List.set_cons_succ] at hO)
              have hF := hO; (try simp only [Own, Item.Holds, apartI, CellsAt, Nat.reduceAdd, Nat.zero_add, List.mem_cons, List.not_mem_nil, or_false, forall_eq_or_imp, forall_eq, ne_eq, false_imp_iff, implies_true, and_true] at hF)
              rotate_left 1
              (have hF := hO; (try simp only [Own, Item.Holds, apartI, CellsAt, Nat.reduceAdd, Nat.zero_add, List.mem_cons, List.not_mem_nil, or_false, forall_eq_or_imp, forall_eq, ne_eq, false_imp_iff, implies_true, and_true] at hF))
              have hO2 := pt_pull15 [.row 37 3 (.slice (some ⟨ql, 0, none⟩) N N) N (pcC (l.set k p)), .blk qp [.int .i64 p.s, .int .i64 p.a, .int .i64 p.o], .row 37 3 (.slice (some ⟨q9, 0, none⟩) t c9) t (pcC T), .blk qa [.int .i64 f, .slice (some ⟨b1, o1, none⟩) N ca, .slice (some ⟨ql, 0, none⟩) N N, .slice (some ⟨qc, 0, none⟩) N N], .blk w.heap.size [.int .i64 0, .slice none 0 0, .slice none 0 0, .slice none 0 0], .row 23 1 (.slice (some ⟨qc, 0, none⟩) N N) N vs] hO
              dsimp only at hO2
              rw [HM.out] at hO2
              refine wp_append15 _ _ 23 rfl 37 i0 (.agg #[.int .i64 0, .int .i64 0, .int .i64 0]) 3 24 Tryd.underlying23 hi0 hz0 hz1 hz2 rfl (by decide) rfl rfl hO2 rfl one3t (by unfold maxLen; omega) (by omega) ?_
              intro v' wa hO3
              rw [pcC_snoc] at hO3
              simp only [List.cons_append, List.nil_append] at hO3
              obtain ⟨qv, cv', hv', _, _⟩ := hO3.row_open (by omega)
              subst hv'
              apply hK _ _ _ (fun _ => True)
              · exact hO3
              · exact trivial
              · exact XStab.true
              · exact fun h => absurd h (by decide)
              clear hO hO2 hO3 hF
              clear hK K
              try simp only [Act.put, List.setIfInBounds_toArray, List.set_cons_zero, List.set_cons_succ]
              refine Sim.sO (i := 1) (d := some 62) (v := ?_) (hy := ?_) (h := ?_)
              rotate_left
              · first | refine Or.inl ⟨by rfl, fun w hO => ?_⟩ | (refine Or.inr ⟨by rfl, ?_⟩; with_reducible rfl)
                first | done | (have hF := hO; (try simp only [Own, Item.Holds, apartI, CellsAt, Nat.reduceAdd, Nat.zero_add, List.mem_cons, List.not_mem_nil, or_false, forall_eq_or_imp, forall_eq, ne_eq, false_imp_iff, implies_true, and_true] at hF); ((have g0 := own_mem15 (q := qc) (e := 23) (size := 1) (k := N) (cap := N) (xs := vs) (i := k) hO (by simp) HVS.out)); refine Out.same ?_; go_simp; all_goals with_reducible rfl)
              refine Sim.sP (i := 11) (d := some 72) (h := ?_)
              refine Sim.one' (i := 12) (oi := { dst := none, op := Op.store 23 (Operand.tmp 72) (Operand.tmp 71), type := 0, pos := "l15_completion.go:53", after := #[{ on := 11, ground := Ground.data }, { on := 10, ground := Ground.data }, { on := 10, ground := Ground.chain }, { on := 0, ground := Ground.phase }, { on := 1, ground := Ground.phase }, { on := 2, ground := Ground.phase }, { on := 3, ground := Ground.phase }, { on := 4, ground := Ground.phase }, { on := 5, ground := Ground.phase }, { on := 6, ground := Ground.phase }, { on := 7, ground := Ground.phase }, { on := 8, ground := Ground.phase }, { on := 9, ground := Ground.phase }, { on := 10, ground := Ground.phase }], guard := none }) (by kernel_rfl) rfl (by rfl) (fun w0 hO hX K hK => ?_)
              (have hF := hO; (try simp only [Own, Item.Holds, apartI, CellsAt, Nat.reduceAdd, Nat.zero_add, List.mem_cons, List.not_mem_nil, or_false, forall_eq_or_imp, forall_eq, ne_eq, false_imp_iff, implies_true, and_true] at hF))
              replace hO := hO.perm (List.perm_middle (l₁ := [_, _, _, _, _, _]))
              simp only [List.cons_append, List.nil_append] at hO
              have g0 := hO.row_cell HVS.out
              have g1 := hO.row_free k
              go_simp
              apply hK _ _ _ (fun _ => True)
              · exact hO.row_set k _
              · exact trivial
              · exact XStab.true
              · exact fun h => absurd h (by decide)
              clear hO hF g0 g1
              clear hK K
              try simp only [Act.put, List.setIfInBounds_toArray, List.set_cons_zero, List.set_cons_succ]
              refine Sim.done (by kernel_rfl) (fun w1 hO hX => ?_) _
              (try simp only [World.size_alloc1, World.size_drew, Nat.reduceAdd] at hO); (try simp only [upd, updI, List.map_cons, List.map_nil, eq_self, if_true, if_false, reduceIte, Nat.add_eq_left, Nat.left_eq_add, Nat.reduceEqDiff, List.set_cons_zero, List.set_cons_succ] at hO)
              have hF := hO; (try simp only [Own, Item.Holds, apartI, CellsAt, Nat.reduceAdd, Nat.zero_add, List.mem_cons, List.not_mem_nil, or_false, forall_eq_or_imp, forall_eq, ne_eq, false_imp_iff, implies_true, and_true] at hF)
              rotate_left 1
              all_goals
                rw [HST.out] at hO
                go_wp2_with fail
                go_roundw
                case rel => exact ⟨j + 1, l.set k p, .slice (some ⟨qv, 0, none⟩) (m + 1) cv', by omega, by go_num, HL2.out, by
                  rw [HN.out]
                  exact (Own.sub (.cons_cons _ (.cons_cons _ (.cons_cons _ (.cons _ (.refl _))))) hO).perm (perm_cnt15 fun a => by simp only [rwP_append, rwP_cons15, HLEN.out, List.count_append, List.count_cons, List.count_nil]; omega)⟩
                case measure => simp [intOf] <;> omega
end Go.Proofs.YtieoobanpllmgaaDoor
